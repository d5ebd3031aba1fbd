/- Texts that the claim needs. -/
import Derived.Test.YtmfcojpjpgldhaaGreatDoorQEBy12
import Derived.Test.YtmfcojpjpgldhaaGreatDoorQEBy14
import Derived.Test.YtmfcojpjpgldhaaGreatDoorQEBy45
import Derived.Test.YtmfcojpjpgldhaaGreatDoorQEBy46
import Derived.Deep.RegionLaw
import Derived.Deep.CutRange
import Derived.Test.YtmfcojpjpgldhaaGreatDoorQEBy39
import Derived.Test.YtmfcojpjpgldhaaGreatDoorQEBy40
import Derived.Test.YtmfcojpjpgldhaaGreatDoorQEBy38
import Derived.Test.YtmfcojpjpgldhaaGreatDoorRows
import Derived.Lib.LaidIn
import Derived.Lib.LaidU8T
import Derived.ProofKit
namespace Go.Proofs.YtmfcojpjpgldhaaGreatDoor
open Go.RowKit aA Enc Go.Proofs.Tryz
set_option linter.unusedVariables false
set_option maxRecDepth 100000
set_option maxHeartbeats 16000000
namespace aA
def GU {d:Nat} (x:Mod d):jK:=⟨λv w=>∃g0 m0 j0 g1 m1 j1 g2 m2 j2 g3 m3 j3 g4 m4 j4 g5 m5 j5 g6 m6 j6 g7 m7 j7 g8 m8 j8 g9 m9 j9,v=.agg #[.slice g0 m0 j0,.slice g1 m1 j1,.slice g2 m2 j2,.slice g3 m3 j3,.slice g4 m4 j4,.slice g5 m5 j5,.slice g6 m6 j6,.slice g7 m7 j7,.slice g8 m8 j8,.slice g9 m9 j9]/\da w d (.slice g0 m0 j0) (.slice g1 m1 j1) (.slice g2 m2 j2) (.slice g3 m3 j3) (.slice g4 m4 j4) (.slice g5 m5 j5) (.slice g6 m6 j6) (.slice g7 m7 j7) (.slice g8 m8 j8) (.slice g9 m9 j9) x/\(∀n c,Value.slice g3 m3 j3=.slice none n c->c=0)/\(∀n c,Value.slice g4 m4 j4=.slice none n c->c=0),λv w w' ⟨g0,m0,j0,g1,m1,j1,g2,m2,j2,g3,m3,j3,g4,m4,j4,g5,m5,j5,g6,m6,j6,g7,m7,j7,g8,m8,j8,g9,m9,j9,h1,hm,hc3,xp⟩ hb=>⟨g0,m0,j0,g1,m1,j1,g2,m2,j2,g3,m3,j3,g4,m4,j4,g5,m5,j5,g6,m6,j6,g7,m7,j7,g8,m8,j8,g9,m9,j9,h1,hm.on hb,hc3,xp⟩⟩
theorem Vb {d:Nat} {x:Mod d} {w:World} {u0 u1 u2 u3 u4 u5 u6 u7 u8 u9:Value} (h:da w d u0 u1 u2 u3 u4 u5 u6 u7 u8 u9 x) (hc3:∀n c,u3=.slice none n c->c=0) (xp:∀n c,u4=.slice none n c->c=0):(GU x).1 (.agg #[u0,u1,u2,u3,u4,u5,u6,u7,u8,u9]) w:=by
 obtain ⟨g0,h0,rfl⟩:=Row.len h.types;obtain ⟨g1,h1,rfl⟩:=Row.len h.imports;obtain ⟨g2,h2,rfl⟩:=Row.len h.funcs;obtain ⟨g3,h3,rfl⟩:=Row.len h.tables;obtain ⟨g4,h4,rfl⟩:=Row.len h.aD;obtain ⟨g5,h5,rfl⟩:=Row.len h.globals;obtain ⟨g6,h6,rfl⟩:=Row.len h.exports;obtain ⟨g7,h7,rfl⟩:=Row.len h.start;obtain ⟨g8,h8,rfl⟩:=Row.len h.elems;obtain ⟨g9,h9,rfl⟩:=Row.len h.ax;exact ⟨_,_,_,_,_,_,_,_,_,_,_,_,_,_,_,_,_,_,_,_,_,_,_,_,_,_,_,_,_,_,rfl,h,hc3,xp⟩
def L3 {d:Nat} (x:Mod d) (B:Nat) (n0 n1 n2 n3 n4 n5 n6 n7 n8 n9 k0 k1 k2 k3 k4 k5 k6 k7 k8 k9:Nat) (o0 o1 o2 o3 o4 o5 o6 o7 o8 o9:Option Addr):Nat->jK
 | 0=>bh (.agg #[.slice o0 n0 k0,.slice o1 n1 k1,.slice o2 n2 k2,.slice o3 n3 k3,.slice o4 n4 k4,.slice o5 n5 k5,.slice o6 n6 k6,.slice o7 n7 k7,.slice o8 n8 k8,.slice o9 n9 k9])
 | 1=>GU x
 | _=>bh undef
theorem Vd {x:List Value} (h:x.length=2):∃x0 x1,x = [x0,x1]:=by
 match x,h with
 | [x0,x1],_=>exact ⟨x0,x1,rfl⟩
end aA
theorem Tf {I:World->Prop} (C:vF I) (d:Nat) (v0 v1 v2 v3 v4 v5 v6 v7 v8 v9:Value) (m:Mod d) (w:World) (hI:I w) (hM:da w d v0 v1 v2 v3 v4 v5 v6 v7 v8 v9 m) (hN:AX m) (hsz:∀x ∈ m.ax,x.bytes.size<=9223372036854775807) (hX:zF m) :
  Calls prog 3 #[.agg #[v0,v1,v2,v3,v4,v5,v6,v7,v8,v9]] w λe w'=>e=.returned (.bool true)/\Below w.heap.size w w':=by
 obtain ⟨o0,k0,rfl⟩:=Row.len hM.types;obtain ⟨o1,k1,rfl⟩:=Row.len hM.imports;obtain ⟨o2,k2,rfl⟩:=Row.len hM.funcs;obtain ⟨o3,k3,rfl⟩:=Row.len hM.tables;obtain ⟨o4,k4,rfl⟩:=Row.len hM.aD;obtain ⟨o5,k5,rfl⟩:=Row.len hM.globals;obtain ⟨o6,k6,rfl⟩:=Row.len hM.exports;obtain ⟨o7,k7,rfl⟩:=Row.len hM.start;obtain ⟨o8,k8,rfl⟩:=Row.len hM.elems;obtain ⟨o9,k9,rfl⟩:=Row.len hM.ax;have Lv:=λ(w2:World) (hb:Below w.heap.size w w2)=>aa (U5 d _ _ _ _ _ _ _ _ _ _ m w2 (hM.on hb) hsz);have HM:=aa hM;have HN:=aa hN;have HX:=aa hX;have HI:=aa hI;clear hM hX hI hsz hN;generalize m.types.length=n0 at *;generalize m.imports.length=n1 at *;generalize m.funcs.length=n2 at *;generalize m.tables.length=n3 at *;generalize m.aD.length=n4 at *;generalize m.globals.length=n5 at *;generalize m.exports.length=n6 at *;generalize m.start.length=n7 at *;generalize m.elems.length=n8 at *;generalize m.ax.length=n9 at *;go_enter func3,ntmps3;go_upto_region 1 with fail;obtain ⟨u1,hu1⟩:∃u1,u1=w.alloc (.cells #[.slice o0 n0 k0,.slice o1 n1 k1,.slice o2 n2 k2,.slice o3 n3 k3,.slice o4 n4 k4,.slice o5 n5 k5,.slice o6 n6 k6,.slice o7 n7 k7,.slice o8 n8 k8,.slice o9 n9 k9] 32):=⟨_,rfl⟩;have HB1:Hid (bG u1 w.heap.size (.slice o0 n0 k0) (.slice o1 n1 k1) (.slice o2 n2 k2) (.slice o3 n3 k3) (.slice o4 n4 k4) (.slice o5 n5 k5) (.slice o6 n6 k6) (.slice o7 n7 k7) (.slice o8 n8 k8) (.slice o9 n9 k9)):=aa (by rw [hu1];exact bG.new rfl);have HU:Hid (Below w.heap.size w u1):=aa (by rw [hu1];exact aU _ _);rw [<- hu1];clear hu1;have HP:∀w2,Below u1.heap.size u1 w2->Hid (bG w2 w.heap.size (.slice o0 n0 k0) (.slice o1 n1 k1) (.slice o2 n2 k2) (.slice o3 n3 k3) (.slice o4 n4 k4) (.slice o5 n5 k5) (.slice o6 n6 k6) (.slice o7 n7 k7) (.slice o8 n8 k8) (.slice o9 n9 k9)):=λw2 hb=>aa (HB1.out.on hb);have Lx:=Lv u1 HU.out;clear Lv;have nX:∀(w2:World) (x:Mod 81),Below u1.heap.size u1 w2->da w2 81 (.slice o0 n0 k0) (.slice o1 n1 k1) (.slice o2 n2 k2) (.slice o3 n3 k3) (.slice o4 n4 k4) (.slice o5 n5 k5) (.slice o6 n6 k6) (.slice o7 n7 k7) (.slice o8 n8 k8) (.slice o9 n9 k9) x->Hid (AX x):=λw2 x hb hx=>aa (U0 hx (HM.out.on (ky HU.out hb)) HN.out);generalize hp1:w.heap.size=p1 at HP HB1 ⊢;obtain ⟨c0,c1,c2,c3,c4,c5,c6,c7,c8,c9⟩:=HB1.out.mE;go_wp2_with fail;refine Lx.out.mono ?_;rintro e u2 ⟨hb2,yI⟩;have HB2:=aa hb2;have Ly:=aa (C.keep (ky HU.out hb2) HI.out);rcases yI with rfl|⟨rfl,x,hx,hs,hi1,hi2⟩
 ·clear c0 c1 c2 c3 c4 c5 c6 c7 c8 c9 hb2 nX;go_wp2_with fail;refine (LA C _ Ly.out).mono ?_;rintro e u3 ⟨rfl,hb3⟩;have eX:=aa (ky (ky HU.out HB2.out) hb3);clear hb3;go_wp2;go_ret;exact ⟨rfl,hp1 ▸ eX.out⟩
 have wI:=nX u2 x hb2 hx;have GV:=aa hx;have GX:=aa hs;have LB:Hid (zF x):=aa ⟨by rw [hi1];exact HX.out.imports,by rw [hi2];exact HX.out.exports⟩;clear hx hs hi1 hi2 hb2 Lx HM HX HN nX c0 c1 c2 c3 c4 c5 c6 c7 c8 c9;have sM:Hid (∀y ∈ x.ax,y.bytes.size<=300000):=aa (λy hy=>(GX.out.ax y hy).2);go_upto_region 3 with fail;refine ai.BK 2 (λi=>11+i) (λi=>(L3 x u2.heap.size n0 n1 n2 n3 n4 n5 n6 n7 n8 n9 k0 k1 k2 k3 k4 k5 k6 k7 k8 k9 o0 o1 o2 o3 o4 o5 o6 o7 o8 o9 i).1) ?hn (λi j h1 h2 h=>by have h':11+i=11+j:=h;omega) (ai.kz (size:=39) (by kernel_rfl)) (λi v w w' _ h hb=>(L3 x u2.heap.size n0 n1 n2 n3 n4 n5 n6 n7 n8 n9 k0 k1 k2 k3 k4 k5 k6 k7 k8 k9 o0 o1 o2 o3 o4 o5 o6 o7 o8 o9 i).2 v w w' h hb) ?hstep ?cH
 case hn=>simp
 case hstep =>
  intro i o a w2 hi ho hF hB hd;have f1:a.tmps[1]?.getD undef=.pointer (some ⟨p1,0,none⟩):=ai.av (hF.eval 1 (λi hi=>by show 11+i≠1;omega));have c0:=(HP w2 (HB2.out.trans (hB.mono HB2.out.size))).out.cell 0 _ rfl;have c1:=(HP w2 (HB2.out.trans (hB.mono HB2.out.size))).out.cell 1 _ rfl;have c2:=(HP w2 (HB2.out.trans (hB.mono HB2.out.size))).out.cell 2 _ rfl;have c3:=(HP w2 (HB2.out.trans (hB.mono HB2.out.size))).out.cell 3 _ rfl;have c4:=(HP w2 (HB2.out.trans (hB.mono HB2.out.size))).out.cell 4 _ rfl;have c5:=(HP w2 (HB2.out.trans (hB.mono HB2.out.size))).out.cell 5 _ rfl;have c6:=(HP w2 (HB2.out.trans (hB.mono HB2.out.size))).out.cell 6 _ rfl;have c7:=(HP w2 (HB2.out.trans (hB.mono HB2.out.size))).out.cell 7 _ rfl;have c8:=(HP w2 (HB2.out.trans (hB.mono HB2.out.size))).out.cell 8 _ rfl;have c9:=(HP w2 (HB2.out.trans (hB.mono HB2.out.size))).out.cell 9 _ rfl;have hcase:i=0\/i=1:=by omega
  clear hi;rcases hcase with rfl|rfl
  ·simp only [fI,gz,gA] at ho;subst ho;refine ai.az λK hK=>?_;go_simp;exact hK _ _ ⟨_,rfl,Below.refl _ _,rfl⟩
  simp only [fI,gX,gz,gA] at ho;subst ho;have q0:a.tmps[11]?.getD undef=.agg #[.slice o0 n0 k0,.slice o1 n1 k1,.slice o2 n2 k2,.slice o3 n3 k3,.slice o4 n4 k4,.slice o5 n5 k5,.slice o6 n6 k6,.slice o7 n7 k7,.slice o8 n8 k8,.slice o9 n9 k9]:=ai.av (hd 0 (by decide));refine ai.az λK hK=>?_;have gY:=aa hK;clear hK;go_simp;refine (OM 81 _ _ _ _ _ _ _ _ _ _ x w2 (GV.out.on hB) GX.out).mono ?_;rintro e w3 ⟨u0,u1,u2,u3,u4,u5,u6,u7,u8,u9,rfl,EA,hb3,hc3,xp⟩;exact gY.out _ _ ⟨_,rfl,hb3,Vb EA hc3 xp⟩
 case cH =>
  intro a w3 hF hB hG;obtain ⟨g0,m0,j0,g1,m1,j1,g2,m2,j2,g3,m3,j3,g4,m4,j4,g5,m5,j5,g6,m6,j6,g7,m7,j7,g8,m8,j8,g9,m9,j9,h8,EA,hc3,xp⟩:=(show (GU x).1 (a.eval (.tmp 12)) w3 from hG 1 (by omega));have has:a.tmps.size=39:=hF.size;have hZ:bG (w3.alloc (.cells #[.slice none 0 0,.slice none 0 0,.slice none 0 0,.slice none 0 0,.slice none 0 0,.slice none 0 0,.slice none 0 0,.slice none 0 0,.slice none 0 0,.slice none 0 0] 32)) w3.heap.size (.slice none 0 0) (.slice none 0 0) (.slice none 0 0) (.slice none 0 0) (.slice none 0 0) (.slice none 0 0) (.slice none 0 0) (.slice none 0 0) (.slice none 0 0) (.slice none 0 0):=bG.new rfl;have hbx:Below w3.heap.size w3 (qZ (w3.alloc (.cells #[.slice none 0 0,.slice none 0 0,.slice none 0 0,.slice none 0 0,.slice none 0 0,.slice none 0 0,.slice none 0 0,.slice none 0 0,.slice none 0 0,.slice none 0 0] 32)) w3.heap.size (.slice g0 m0 j0) (.slice g1 m1 j1) (.slice g2 m2 j2) (.slice g3 m3 j3) (.slice g4 m4 j4) (.slice g5 m5 j5) (.slice g6 m6 j6) (.slice g7 m7 j7) (.slice g8 m8 j8) (.slice g9 m9 j9)):=Fw (aU _ _) (aI _) (.slice g0 m0 j0) (.slice g1 m1 j1) (.slice g2 m2 j2) (.slice g3 m3 j3) (.slice g4 m4 j4) (.slice g5 m5 j5) (.slice g6 m6 j6) (.slice g7 m7 j7) (.slice g8 m8 j8) (.slice g9 m9 j9);have qJ:=aa (hZ.all (.slice g0 m0 j0) (.slice g1 m1 j1) (.slice g2 m2 j2) (.slice g3 m3 j3) (.slice g4 m4 j4) (.slice g5 m5 j5) (.slice g6 m6 j6) (.slice g7 m7 j7) (.slice g8 m8 j8) (.slice g9 m9 j9));have jM:=aa (EA.on hbx);have cg:=aa (ky hB hbx);have DG:=aa hc3;have DI:=aa xp;have p3:=ai.xw (a:=a) (k:=3) (.pointer (some ⟨w3.heap.size,0,none⟩)) (by rw [has];decide);have p8:=(ai.vP (a:=a) (k:=3) (j:=12) (.pointer (some ⟨w3.heap.size,0,none⟩)) (by decide)).trans h8;obtain ⟨xl,hxl,ha,hev⟩:=hF.lit (by simp);obtain ⟨x0,x1,rfl⟩:=Vd hxl;have HA:=aa ha;clear EA hbx hc3 xp h8 hG hev hxl has ha;simp only [fK,fB];refine wpList_plain rfl λK iT=>?_;go_simp;refine iT _ _ ?_;refine wpList_plain rfl λK2 EB=>?_;refine Fq (a:=a.put (some 3) (.pointer (some ⟨w3.heap.size,0,none⟩))) (ai.av p3) (ai.av p8) hZ ?_;refine EB _ _ (wpList_nil ?_);clear iT EB hZ p3 p8 hF;generalize qZ (w3.alloc (.cells #[.slice none 0 0,.slice none 0 0,.slice none 0 0,.slice none 0 0,.slice none 0 0,.slice none 0 0,.slice none 0 0,.slice none 0 0,.slice none 0 0,.slice none 0 0] 32)) w3.heap.size (.slice g0 m0 j0) (.slice g1 m1 j1) (.slice g2 m2 j2) (.slice g3 m3 j3) (.slice g4 m4 j4) (.slice g5 m5 j5) (.slice g6 m6 j6) (.slice g7 m7 j7) (.slice g8 m8 j8) (.slice g9 m9 j9)=w4 at *;generalize w3.heap.size=g at *;have ha:=HA.out;clear HA;subst ha;clear hB;simp only [Act.put,List.setIfInBounds_toArray,List.set_cons_succ,List.set_cons_zero,iH,iI,fK,fB,iy,ed];have LC:=aa (GV.out.on cg.out);have yJ:=aa (C.keep cg.out Ly.out);have fG:=HP w4 (HB2.out.trans (cg.out.mono HB2.out.size));have A9:Hid (Cq (.slice g3 m3 j3) (.slice g4 m4 j4) x):=aa ⟨by decide,λy hy=>by have:=sM.out y hy;omega,LB.out,DG.out,DI.out⟩;have cK:=aa (ky (ky HU.out HB2.out) cg.out);obtain ⟨S,E,vQ⟩:=U1 x;have xy:=aa vQ;have zR:=aa (Ve C 81 _ _ _ _ _ _ _ _ _ _ x w4 yJ.out jM.out A9.out (λh=>LD h wI.out));rw [xy.out] at zR;clear GV HP HB1 vQ DG DI A9 GX;obtain ⟨d0,d1,d2,d3,d4,d5,d6,d7,d8,d9⟩:=qJ.out.mE;go_wp2_with fail;refine zR.out.mono ?_;rintro e w5 ⟨rfl,hb5⟩;have mQ:=aa hb5;clear hb5 zR d0 d1 d2 d3 d4 d5 d6 d7 d8 d9;have GY:=aa (Vf 81 _ _ _ _ _ _ _ _ _ _ x w5 (LC.out.on mQ.out) LB.out (λy hy=>by have:=sM.out y hy;omega) (λh=>LD h wI.out));rw [xy.out] at GY;have c0:=(fG.out.on mQ.out).cell 0 _ rfl;have c1:=(fG.out.on mQ.out).cell 1 _ rfl;have c2:=(fG.out.on mQ.out).cell 2 _ rfl;have c3:=(fG.out.on mQ.out).cell 3 _ rfl;have c4:=(fG.out.on mQ.out).cell 4 _ rfl;have c5:=(fG.out.on mQ.out).cell 5 _ rfl;have c6:=(fG.out.on mQ.out).cell 6 _ rfl;have c7:=(fG.out.on mQ.out).cell 7 _ rfl;have c8:=(fG.out.on mQ.out).cell 8 _ rfl;have c9:=(fG.out.on mQ.out).cell 9 _ rfl;go_wp2_with fail;refine GY.out.mono ?_;rintro e w6 ⟨rfl,LF⟩;have kF:=aa (mQ.out.trans (LF.mono mQ.out.size));clear LF GY mQ c0 c1 c2 c3 c4 c5 c6 c7 c8 c9;have HS:=aa (Vg 81 _ _ _ _ _ _ _ _ _ _ _ _ _ _ _ _ _ _ _ _ x w6 (jM.out.on kF.out) (LC.out.on kF.out));have c0:=(fG.out.on kF.out).cell 0 _ rfl;have c1:=(fG.out.on kF.out).cell 1 _ rfl;have c2:=(fG.out.on kF.out).cell 2 _ rfl;have c3:=(fG.out.on kF.out).cell 3 _ rfl;have c4:=(fG.out.on kF.out).cell 4 _ rfl;have c5:=(fG.out.on kF.out).cell 5 _ rfl;have c6:=(fG.out.on kF.out).cell 6 _ rfl;have c7:=(fG.out.on kF.out).cell 7 _ rfl;have c8:=(fG.out.on kF.out).cell 8 _ rfl;have c9:=(fG.out.on kF.out).cell 9 _ rfl;have d0:=(qJ.out.on kF.out).cell 0 _ rfl;have d1:=(qJ.out.on kF.out).cell 1 _ rfl;have d2:=(qJ.out.on kF.out).cell 2 _ rfl;have d3:=(qJ.out.on kF.out).cell 3 _ rfl;have d4:=(qJ.out.on kF.out).cell 4 _ rfl;have d5:=(qJ.out.on kF.out).cell 5 _ rfl;have d6:=(qJ.out.on kF.out).cell 6 _ rfl;have d7:=(qJ.out.on kF.out).cell 7 _ rfl;have d8:=(qJ.out.on kF.out).cell 8 _ rfl;have d9:=(qJ.out.on kF.out).cell 9 _ rfl;go_wp2_with fail;refine HS.out.mono ?_;rintro e w7 ⟨rfl,LG⟩;have AA:=aa (kF.out.trans (LG.mono kF.out.size));clear LG HS kF c0 c1 c2 c3 c4 c5 c6 c7 c8 c9 d0 d1 d2 d3 d4 d5 d6 d7 d8 d9;have HW:=aa (LA C w7 (C.keep AA.out yJ.out));go_wp2_with fail;refine HW.out.mono ?_;rintro e w8 ⟨rfl,LH⟩;have yl:=aa (AA.out.trans (LH.mono AA.out.size));clear LH HW AA;have Vh:=aa (ky cK.out yl.out);go_wp2;go_ret;exact ⟨rfl,hp1 ▸ Vh.out⟩
end Go.Proofs.YtmfcojpjpgldhaaGreatDoor
namespace Go.Proofs.YtmfcojpjpgldhaaGreatDoor
open Go.RowKit aA Go.Proofs.Tryz
set_option linter.unusedVariables false
theorem Zf (op:Int) (w:World) (h:op<=68):Calls prog 106 #[.int .i64 op] w λe w'=>e=.returned (.bool false)/\w'=w:=by
 have Bo:(op==167)=false:=ah (by omega);have Bp:(op==172)=false:=ah (by omega);have Bq:(op==173)=false:=ah (by omega);have Br:decide ((69:Int)<=op)=false:=au (by omega);have Bs:decide ((103:Int)<=op)=false:=au (by omega);clear h;go_enter func106,ntmps106;go_wp2;go_ret;exact ⟨rfl,rfl⟩
theorem Zg (op:Int) (w:World) (h:69<=op/\op<=90):Calls prog 106 #[.int .i64 op] w λe w'=>e=.returned (.bool true)/\w'=w:=by
 have Bo:(op==167)=false:=ah (by omega);have Bp:(op==172)=false:=ah (by omega);have Bq:(op==173)=false:=ah (by omega);have Br:decide ((69:Int)<=op)=true:=aC (by omega);have C9:decide (op<=(90:Int))=true:=aC (by omega);have Bs:decide ((103:Int)<=op)=false:=au (by omega);clear h;go_enter func106,ntmps106;go_wp2;go_ret;exact ⟨rfl,rfl⟩
theorem Zh (op:Int) (w:World) (h:91<=op/\op<=102):Calls prog 106 #[.int .i64 op] w λe w'=>e=.returned (.bool false)/\w'=w:=by
 have Bo:(op==167)=false:=ah (by omega);have Bp:(op==172)=false:=ah (by omega);have Bq:(op==173)=false:=ah (by omega);have Br:decide ((69:Int)<=op)=true:=aC (by omega);have C9:decide (op<=(90:Int))=false:=au (by omega);have Bs:decide ((103:Int)<=op)=false:=au (by omega);clear h;go_enter func106,ntmps106;go_wp2;go_ret;exact ⟨rfl,rfl⟩
theorem Zi (op:Int) (w:World) (h:103<=op/\op<=138):Calls prog 106 #[.int .i64 op] w λe w'=>e=.returned (.bool true)/\w'=w:=by
 have Bo:(op==167)=false:=ah (by omega);have Bp:(op==172)=false:=ah (by omega);have Bq:(op==173)=false:=ah (by omega);have Br:decide ((69:Int)<=op)=true:=aC (by omega);have C9:decide (op<=(90:Int))=false:=au (by omega);have Bs:decide ((103:Int)<=op)=true:=aC (by omega);have Ia:decide (op<=(138:Int))=true:=aC (by omega);clear h;go_enter func106,ntmps106;go_wp2;go_ret;exact ⟨rfl,rfl⟩
theorem Zj (op:Int) (w:World) (h:139<=op/\op<=166):Calls prog 106 #[.int .i64 op] w λe w'=>e=.returned (.bool false)/\w'=w:=by
 have Bo:(op==167)=false:=ah (by omega);have Bp:(op==172)=false:=ah (by omega);have Bq:(op==173)=false:=ah (by omega);have Br:decide ((69:Int)<=op)=true:=aC (by omega);have C9:decide (op<=(90:Int))=false:=au (by omega);have Bs:decide ((103:Int)<=op)=true:=aC (by omega);have Ia:decide (op<=(138:Int))=false:=au (by omega);clear h;go_enter func106,ntmps106;go_wp2;go_ret;exact ⟨rfl,rfl⟩
theorem Zk (op:Int) (w:World) (h:167<=op/\op<=167):Calls prog 106 #[.int .i64 op] w λe w'=>e=.returned (.bool true)/\w'=w:=by
 obtain rfl:op=167:=by omega
 clear h;go_enter func106,ntmps106;go_wp2;go_ret;exact ⟨rfl,rfl⟩
theorem Zl (op:Int) (w:World) (h:168<=op/\op<=171):Calls prog 106 #[.int .i64 op] w λe w'=>e=.returned (.bool false)/\w'=w:=by
 have Bo:(op==167)=false:=ah (by omega);have Bp:(op==172)=false:=ah (by omega);have Bq:(op==173)=false:=ah (by omega);have Br:decide ((69:Int)<=op)=true:=aC (by omega);have C9:decide (op<=(90:Int))=false:=au (by omega);have Bs:decide ((103:Int)<=op)=true:=aC (by omega);have Ia:decide (op<=(138:Int))=false:=au (by omega);clear h;go_enter func106,ntmps106;go_wp2;go_ret;exact ⟨rfl,rfl⟩
theorem Zm (op:Int) (w:World) (h:172<=op/\op<=172):Calls prog 106 #[.int .i64 op] w λe w'=>e=.returned (.bool true)/\w'=w:=by
 obtain rfl:op=172:=by omega
 clear h;go_enter func106,ntmps106;go_wp2;go_ret;exact ⟨rfl,rfl⟩
theorem Zn (op:Int) (w:World) (h:173<=op/\op<=173):Calls prog 106 #[.int .i64 op] w λe w'=>e=.returned (.bool true)/\w'=w:=by
 obtain rfl:op=173:=by omega
 clear h;go_enter func106,ntmps106;go_wp2;go_ret;exact ⟨rfl,rfl⟩
theorem Zo (op:Int) (w:World) (h:174<=op):Calls prog 106 #[.int .i64 op] w λe w'=>e=.returned (.bool false)/\w'=w:=by
 have Bo:(op==167)=false:=ah (by omega);have Bp:(op==172)=false:=ah (by omega);have Bq:(op==173)=false:=ah (by omega);have Br:decide ((69:Int)<=op)=true:=aC (by omega);have C9:decide (op<=(90:Int))=false:=au (by omega);have Bs:decide ((103:Int)<=op)=true:=aC (by omega);have Ia:decide (op<=(138:Int))=false:=au (by omega);clear h;go_enter func106,ntmps106;go_wp2;go_ret;exact ⟨rfl,rfl⟩
theorem Zp (op:Int) (w:World):Calls prog 106 #[.int .i64 op] w λe w'=>e=.returned (.bool (eu op))/\w'=w:=by
 by_cases c0:op<=68
 ·rw [show eu op=false from au (by omega)];exact Zf op w (by omega)
 by_cases c1:op<=90
 ·rw [show eu op=true from aC (by omega)];exact Zg op w (by omega)
 by_cases c2:op<=102
 ·rw [show eu op=false from au (by omega)];exact Zh op w (by omega)
 by_cases c3:op<=138
 ·rw [show eu op=true from aC (by omega)];exact Zi op w (by omega)
 by_cases c4:op<=166
 ·rw [show eu op=false from au (by omega)];exact Zj op w (by omega)
 by_cases c5:op<=167
 ·rw [show eu op=true from aC (by omega)];exact Zk op w (by omega)
 by_cases c6:op<=171
 ·rw [show eu op=false from au (by omega)];exact Zl op w (by omega)
 by_cases c7:op<=172
 ·rw [show eu op=true from aC (by omega)];exact Zm op w (by omega)
 by_cases c8:op<=173
 ·rw [show eu op=true from aC (by omega)];exact Zn op w (by omega)
 rw [show eu op=false from au (by omega)];exact Zo op w (by omega)
end Go.Proofs.YtmfcojpjpgldhaaGreatDoor
namespace Go.Proofs.YtmfcojpjpgldhaaGreatDoor
open Go.RowKit aA
set_option linter.unusedVariables false
theorem Zq:gh ym:=⟨Ss,λop w _=>(Zp op w).mono λe w' ⟨h1,h2⟩=>⟨h1,by rw [h2];exact Below.refl _ _⟩⟩
theorem Tg:vF ym:=Sq Zq λ_ h=>h
end Go.Proofs.YtmfcojpjpgldhaaGreatDoor
namespace Go.Proofs.YtmfcojpjpgldhaaGreatDoor
open Go.RowKit Go.Shelf Go.Lib aA Go.Proofs.Tryz
theorem own:ownKnob prog.godebug=none:=by kernel_rfl
theorem Nu:(Rows.laid_unicode_utf8_acceptRanges:DataW Unit)=Lib.acceptData:=by kernel_rfl
theorem Nv:Rows.laid_unicode_utf8_first=Lib.firstData:=by kernel_rfl
theorem S5 {W : World} (hL : laidMetH Tryz.prog [("unicode/utf8.acceptRanges", Rows.laid_unicode_utf8_acceptRanges), ("unicode/utf8.first", Rows.laid_unicode_utf8_first)] W) : ym W := by
 rw [Nu,Nv] at hL;have hM : laidMet Tryz.prog [("unicode/utf8.acceptRanges", Lib.acceptData), ("unicode/utf8.first", Lib.firstData)] W := hL
 exact utf8Tabs_of_readsT (U8Types.of196 Tryz.laysValid) ⟨by kernel_rfl,by kernel_rfl,by kernel_rfl,by kernel_rfl,by kernel_rfl,by kernel_rfl,by kernel_rfl⟩ (Lib.laidMet.reads hM (.tail _ (.head _))) (Lib.laidMet.reads hM (.head _))
noncomputable def Gl (os:Os):World :=
 let w0:=World.holding prog os ⟨#[],#[],[]⟩
 let put (h:Array Obj) (g:Nat) (cs:Array Value):Array Obj:=h.modify g fun
  | .cells _ t frozen=>.cells cs t frozen
  | o=>o
 let h1:=put w0.heap 0 (Lib.firstTab.map λz=>Value.int .u8 z).toArray
 let h2:=put h1 1 ((List.range 16).flatMap λi=>[Value.int .u8 (Lib.accLo i),Value.int .u8 (Lib.accHi i)]).toArray
 { w0 with heap:=h2 }
theorem Ti (os : Os) (args : Array Value) : laidMet Tryz.prog [("unicode/utf8.acceptRanges", Rows.laid_unicode_utf8_acceptRanges), ("unicode/utf8.first", Rows.laid_unicode_utf8_first)] ((Gl os).forCall (fun _ _ => 0) ⟨#[], args, []⟩).memory := by
 rw [Nu,Nv];exact (LaidIn.of_run (l := [("unicode/utf8.acceptRanges", Lib.acceptData), ("unicode/utf8.first", Lib.firstData)]) [1, 0] 8 (by kernel_rfl) (by kernel_rfl) (by kernel_rfl) (by kernel_rfl)).met
end Go.Proofs.YtmfcojpjpgldhaaGreatDoor
