/- Texts that the claim needs. -/
import Derived.Test.YtmfcojpjpgldhaaGreatDoorQEBy13
import Derived.Deep.CutRange
import Derived.Deep.RegionLaw
namespace Go.Proofs.YtmfcojpjpgldhaaGreatDoor
open Go.RowKit aA Go.Proofs.Tryz
set_option linter.unusedVariables false
set_option maxRecDepth 100000
set_option maxHeartbeats 32000000
namespace aA
theorem NI {x:List Value} (h:x.length=30):∃x0 x1 x2 x3 x4 x5 x6 x7 x8 x9 bZ ez eB eC eD eF eG eH eM fF gq gS iL iM jN ll lq nQ nk pO,x = [x0,x1,x2,x3,x4,x5,x6,x7,x8,x9,bZ,ez,eB,eC,eD,eF,eG,eH,eM,fF,gq,gS,iL,iM,jN,ll,lq,nQ,nk,pO]:=by
 match x,h with
 | [x0,x1,x2,x3,x4,x5,x6,x7,x8,x9,bZ,ez,eB,eC,eD,eF,eG,eH,eM,fF,gq,gS,iL,iM,jN,ll,lq,nQ,nk,pO],_=>exact ⟨x0,x1,x2,x3,x4,x5,x6,x7,x8,x9,bZ,ez,eB,eC,eD,eF,eG,eH,eM,fF,gq,gS,iL,iM,jN,ll,lq,nQ,nk,pO,rfl⟩
theorem E0 {x:List Value} (h:x.length=11):∃x0 x1 x2 x3 x4 x5 x6 x7 x8 x9 bZ,x = [x0,x1,x2,x3,x4,x5,x6,x7,x8,x9,bZ]:=by
 match x,h with
 | [x0,x1,x2,x3,x4,x5,x6,x7,x8,x9,bZ],_=>exact ⟨x0,x1,x2,x3,x4,x5,x6,x7,x8,x9,bZ,rfl⟩
theorem NJ {x:List Value} (h:x.length=25):∃x0 x1 x2 x3 x4 x5 x6 x7 x8 x9 bZ ez eB eC eD eF eG eH eM fF gq gS iL iM jN,x = [x0,x1,x2,x3,x4,x5,x6,x7,x8,x9,bZ,ez,eB,eC,eD,eF,eG,eH,eM,fF,gq,gS,iL,iM,jN]:=by
 match x,h with
 | [x0,x1,x2,x3,x4,x5,x6,x7,x8,x9,bZ,ez,eB,eC,eD,eF,eG,eH,eM,fF,gq,gS,iL,iM,jN],_=>exact ⟨x0,x1,x2,x3,x4,x5,x6,x7,x8,x9,bZ,ez,eB,eC,eD,eF,eG,eH,eM,fF,gq,gS,iL,iM,jN,rfl⟩
theorem ZO {x:List Value} (h:x.length=20):∃x0 x1 x2 x3 x4 x5 x6 x7 x8 x9 bZ ez eB eC eD eF eG eH eM fF,x = [x0,x1,x2,x3,x4,x5,x6,x7,x8,x9,bZ,ez,eB,eC,eD,eF,eG,eH,eM,fF]:=by
 match x,h with
 | [x0,x1,x2,x3,x4,x5,x6,x7,x8,x9,bZ,ez,eB,eC,eD,eF,eG,eH,eM,fF],_=>exact ⟨x0,x1,x2,x3,x4,x5,x6,x7,x8,x9,bZ,ez,eB,eC,eD,eF,eG,eH,eM,fF,rfl⟩
theorem ZP {x:List Value} (h:x.length=45):∃x0 x1 x2 x3 x4 x5 x6 x7 x8 x9 bZ ez eB eC eD eF eG eH eM fF gq gS iL iM jN ll lq nQ nk pO xH xI xJ xK xL xM xN xO xP xQ xR xS xU vY Dc,x = [x0,x1,x2,x3,x4,x5,x6,x7,x8,x9,bZ,ez,eB,eC,eD,eF,eG,eH,eM,fF,gq,gS,iL,iM,jN,ll,lq,nQ,nk,pO,xH,xI,xJ,xK,xL,xM,xN,xO,xP,xQ,xR,xS,xU,vY,Dc]:=by
 obtain ⟨x0,x1,x2,x3,x4,x5,x6,x7,x8,x9,bZ,ez,eB,eC,eD,eF,eG,eH,eM,fF,gq,gS,iL,iM,jN,h1⟩:=NJ (x:=x.take 25) (by rw [jY,h];rfl);obtain ⟨ll,lq,nQ,nk,pO,xH,xI,xJ,xK,xL,xM,xN,xO,xP,xQ,xR,xS,xU,vY,Dc,h2⟩:=ZO (x:=x.drop 25) (by rw [p7,h]);exact ⟨x0,x1,x2,x3,x4,x5,x6,x7,x8,x9,bZ,ez,eB,eC,eD,eF,eG,eH,eM,fF,gq,gS,iL,iM,jN,ll,lq,nQ,nk,pO,xH,xI,xJ,xK,xL,xM,xN,xO,xP,xQ,xR,xS,xU,vY,Dc,by rw [<- List.take_append_drop 25 x,h1,h2];rfl⟩
theorem ZQ {x:List Value} (h:x.length=19):∃x0 x1 x2 x3 x4 x5 x6 x7 x8 x9 bZ ez eB eC eD eF eG eH eM,x = [x0,x1,x2,x3,x4,x5,x6,x7,x8,x9,bZ,ez,eB,eC,eD,eF,eG,eH,eM]:=by
 match x,h with
 | [x0,x1,x2,x3,x4,x5,x6,x7,x8,x9,bZ,ez,eB,eC,eD,eF,eG,eH,eM],_=>exact ⟨x0,x1,x2,x3,x4,x5,x6,x7,x8,x9,bZ,ez,eB,eC,eD,eF,eG,eH,eM,rfl⟩
theorem ZR {x:List Value} (h:x.length=44):∃x0 x1 x2 x3 x4 x5 x6 x7 x8 x9 bZ ez eB eC eD eF eG eH eM fF gq gS iL iM jN ll lq nQ nk pO xH xI xJ xK xL xM xN xO xP xQ xR xS xU vY,x = [x0,x1,x2,x3,x4,x5,x6,x7,x8,x9,bZ,ez,eB,eC,eD,eF,eG,eH,eM,fF,gq,gS,iL,iM,jN,ll,lq,nQ,nk,pO,xH,xI,xJ,xK,xL,xM,xN,xO,xP,xQ,xR,xS,xU,vY]:=by
 obtain ⟨x0,x1,x2,x3,x4,x5,x6,x7,x8,x9,bZ,ez,eB,eC,eD,eF,eG,eH,eM,fF,gq,gS,iL,iM,jN,h1⟩:=NJ (x:=x.take 25) (by rw [jY,h];rfl);obtain ⟨ll,lq,nQ,nk,pO,xH,xI,xJ,xK,xL,xM,xN,xO,xP,xQ,xR,xS,xU,vY,h2⟩:=ZQ (x:=x.drop 25) (by rw [p7,h]);exact ⟨x0,x1,x2,x3,x4,x5,x6,x7,x8,x9,bZ,ez,eB,eC,eD,eF,eG,eH,eM,fF,gq,gS,iL,iM,jN,ll,lq,nQ,nk,pO,xH,xI,xJ,xK,xL,xM,xN,xO,xP,xQ,xR,xS,xU,vY,by rw [<- List.take_append_drop 25 x,h1,h2];rfl⟩
theorem ZT {x:List Value} (h:x.length=29):∃x0 x1 x2 x3 x4 x5 x6 x7 x8 x9 bZ ez eB eC eD eF eG eH eM fF gq gS iL iM jN ll lq nQ nk,x = [x0,x1,x2,x3,x4,x5,x6,x7,x8,x9,bZ,ez,eB,eC,eD,eF,eG,eH,eM,fF,gq,gS,iL,iM,jN,ll,lq,nQ,nk]:=by
 match x,h with
 | [x0,x1,x2,x3,x4,x5,x6,x7,x8,x9,bZ,ez,eB,eC,eD,eF,eG,eH,eM,fF,gq,gS,iL,iM,jN,ll,lq,nQ,nk],_=>exact ⟨x0,x1,x2,x3,x4,x5,x6,x7,x8,x9,bZ,ez,eB,eC,eD,eF,eG,eH,eM,fF,gq,gS,iL,iM,jN,ll,lq,nQ,nk,rfl⟩
theorem ZU {x:List Value} (h:x.length=4):∃x0 x1 x2 x3,x = [x0,x1,x2,x3]:=by
 match x,h with
 | [x0,x1,x2,x3],_=>exact ⟨x0,x1,x2,x3,rfl⟩
end aA
theorem Vg (d:Nat) (v0 v1 v2 v3 v4 v5 v6 v7 v8 v9 u0 u1 u2 u3 u4 u5 u6 u7 u8 u9:Value) (m:Mod d) (w:World) (hM:da w d v0 v1 v2 v3 v4 v5 v6 v7 v8 v9 m) (hK:da w d u0 u1 u2 u3 u4 u5 u6 u7 u8 u9 m):Calls prog 9 #[.agg #[v0,v1,v2,v3,v4,v5,v6,v7,v8,v9],.agg #[u0,u1,u2,u3,u4,u5,u6,u7,u8,u9]] w (λe w'=>e=.returned (.bool true)/\Below w.heap.size w w'):=by
 obtain ⟨o0,k0,rfl⟩:=Row.len hM.types;obtain ⟨o1,k1,rfl⟩:=Row.len hM.imports;obtain ⟨o2,k2,rfl⟩:=Row.len hM.funcs;obtain ⟨o3,k3,rfl⟩:=Row.len hM.tables;obtain ⟨o4,k4,rfl⟩:=Row.len hM.aD;obtain ⟨o5,k5,rfl⟩:=Row.len hM.globals;obtain ⟨o6,k6,rfl⟩:=Row.len hM.exports;obtain ⟨o7,k7,rfl⟩:=Row.len hM.start;obtain ⟨o8,k8,rfl⟩:=Row.len hM.elems;obtain ⟨o9,k9,rfl⟩:=Row.len hM.ax;obtain ⟨g0,h0,rfl⟩:=Row.len hK.types;obtain ⟨g1,h1,rfl⟩:=Row.len hK.imports;obtain ⟨g2,h2,rfl⟩:=Row.len hK.funcs;obtain ⟨g3,h3,rfl⟩:=Row.len hK.tables;obtain ⟨g4,h4,rfl⟩:=Row.len hK.aD;obtain ⟨g5,h5,rfl⟩:=Row.len hK.globals;obtain ⟨g6,h6,rfl⟩:=Row.len hK.exports;obtain ⟨g7,h7,rfl⟩:=Row.len hK.start;obtain ⟨g8,h8,rfl⟩:=Row.len hK.elems;obtain ⟨g9,h9,rfl⟩:=Row.len hK.ax;have HM:=aa hM;have HK:=aa hK;have aT:=aa (λ(w2:World) (hb:Below w.heap.size w w2)=>Qd d _ _ _ _ _ _ _ _ _ _ _ _ _ _ _ _ _ _ _ _ m w2 (hM.on hb) (hK.on hb));clear hM hK;generalize hn0:m.types.length=n0 at *;generalize iK:m.imports.length=n1 at *;generalize gW:m.funcs.length=n2 at *;generalize ja:m.tables.length=n3 at *;generalize iG:m.aD.length=n4 at *;generalize iS:m.globals.length=n5 at *;generalize jD:m.exports.length=n6 at *;generalize iE:m.start.length=n7 at *;generalize iO:m.elems.length=n8 at *;generalize jb:m.ax.length=n9 at *;go_enter func9,ntmps9;go_upto_region 1 with fail;obtain ⟨u1,hu1⟩:∃u1,u1=(w.alloc (.cells #[.slice o0 n0 k0,.slice o1 n1 k1,.slice o2 n2 k2,.slice o3 n3 k3,.slice o4 n4 k4,.slice o5 n5 k5,.slice o6 n6 k6,.slice o7 n7 k7,.slice o8 n8 k8,.slice o9 n9 k9] 32)).alloc (.cells #[.slice g0 n0 h0,.slice g1 n1 h1,.slice g2 n2 h2,.slice g3 n3 h3,.slice g4 n4 h4,.slice g5 n5 h5,.slice g6 n6 h6,.slice g7 n7 h7,.slice g8 n8 h8,.slice g9 n9 h9] 32):=⟨_,rfl⟩;have HP:Hid (bG u1 w.heap.size (.slice o0 n0 k0) (.slice o1 n1 k1) (.slice o2 n2 k2) (.slice o3 n3 k3) (.slice o4 n4 k4) (.slice o5 n5 k5) (.slice o6 n6 k6) (.slice o7 n7 k7) (.slice o8 n8 k8) (.slice o9 n9 k9)):=aa (by rw [hu1];exact (bG.new rfl).on (aU _ _));have HQ:Hid (bG u1 (w.heap.size+1) (.slice g0 n0 h0) (.slice g1 n1 h1) (.slice g2 n2 h2) (.slice g3 n3 h3) (.slice g4 n4 h4) (.slice g5 n5 h5) (.slice g6 n6 h6) (.slice g7 n7 h7) (.slice g8 n8 h8) (.slice g9 n9 h9)):=aa (by rw [hu1];exact bG.new (by simp));have HU:Hid (Below w.heap.size w u1):=aa (by rw [hu1];exact ky (aU _ _) (aU _ _));have ig:=aa (HM.out.on HU.out);have nG:=aa (HK.out.on HU.out);rw [<- hu1];clear hu1;obtain ⟨p2,hp2⟩:∃p2,p2=w.heap.size+1:=⟨_,rfl⟩;rw [<- hp2] at HQ ⊢;clear hp2;generalize hp1:w.heap.size=p1 at HP ⊢;have sM:=aa (λw2 (hb:Below u1.heap.size u1 w2)=>aT.out w2 (ky HU.out hb));clear aT;have l0:=HM.out.types.1;have l1:=HM.out.imports.1;have l2:=HM.out.funcs.1;have l3:=HM.out.tables.1;have l4:=HM.out.aD.1;have l5:=HM.out.globals.1;have l6:=HM.out.exports.1;have l7:=HM.out.start.1;have l8:=HM.out.elems.1;have l9:=HM.out.ax.1;refine ai.ZH 4 14 303 [.agg #[.slice o0 n0 k0,.slice o1 n1 k1,.slice o2 n2 k2,.slice o3 n3 k3,.slice o4 n4 k4,.slice o5 n5 k5,.slice o6 n6 k6,.slice o7 n7 k7,.slice o8 n8 k8,.slice o9 n9 k9],.agg #[.slice g0 n0 h0,.slice g1 n1 h1,.slice g2 n2 h2,.slice g3 n3 h3,.slice g4 n4 h4,.slice g5 n5 h5,.slice g6 n6 h6,.slice g7 n7 h7,.slice g8 n8 h8,.slice g9 n9 h9],.bool true,.bool false] (by simp) (by kernel_rfl) rfl ?hstep ?cH
 case hstep =>
  intro i o a w hi ho hF hB hd;have f2:a.tmps[2]?.getD undef=.pointer (some ⟨p1,0,none⟩):=ai.av (hF.eval 2 (λi hi=>by show 14+i≠2;omega));have f3:a.tmps[3]?.getD undef=.pointer (some ⟨p2,0,none⟩):=ai.av (hF.eval 3 (λi hi=>by show 14+i≠3;omega));have c0:=(HP.out.on hB).cell 0 _ rfl;have c1:=(HP.out.on hB).cell 1 _ rfl;have c2:=(HP.out.on hB).cell 2 _ rfl;have c3:=(HP.out.on hB).cell 3 _ rfl;have c4:=(HP.out.on hB).cell 4 _ rfl;have c5:=(HP.out.on hB).cell 5 _ rfl;have c6:=(HP.out.on hB).cell 6 _ rfl;have c7:=(HP.out.on hB).cell 7 _ rfl;have c8:=(HP.out.on hB).cell 8 _ rfl;have c9:=(HP.out.on hB).cell 9 _ rfl;have d0:=(HQ.out.on hB).cell 0 _ rfl;have d1:=(HQ.out.on hB).cell 1 _ rfl;have d2:=(HQ.out.on hB).cell 2 _ rfl;have d3:=(HQ.out.on hB).cell 3 _ rfl;have d4:=(HQ.out.on hB).cell 4 _ rfl;have d5:=(HQ.out.on hB).cell 5 _ rfl;have d6:=(HQ.out.on hB).cell 6 _ rfl;have d7:=(HQ.out.on hB).cell 7 _ rfl;have d8:=(HQ.out.on hB).cell 8 _ rfl;have d9:=(HQ.out.on hB).cell 9 _ rfl;have hd0:=hd 0;have hd1:=hd 1;have hd2:=hd 2;clear hd
  iterate 4 (rcases Nat.lt_succ_iff_lt_or_eq.1 hi with hi|rfl)
  exact absurd hi (Nat.not_lt_zero _)
  all_goals (
   simp only [fI,gX,gz,gA] at ho;subst ho;refine ai.Does.go rfl (ai.az λK hK=>?_);simp at hd0 hd1 hd2;go_simp
   first|exact hK _ _ ⟨_,rfl,Below.refl _ _,rfl⟩|(refine (sM.out w hB).mono ?_;rintro e w' ⟨rfl,hw⟩;exact hK _ _ ⟨_,rfl,hw,rfl⟩))
 case cH =>
  intro a w2 hF hB hG;have gl:a.eval (.tmp 17)=.bool false:=hG 3 (by omega);have bg:=aa hB;rw [zz (by simp)];refine wpList_nil ?_;obtain ⟨xl,hxl,rfl,hev⟩:=hF.lit (by simp);rw [hev 3 (by omega)] at gl;obtain ⟨x0,x1,x2,x3,rfl⟩:=ZU hxl;obtain rfl:x3=.bool false:=gl;clear hev hxl hF hG hB sM;simp only [iH,iI,fK,fB,iy,ed];go_wp2_with fail;go_loopw [5] (λi wr=>∃j:Nat,j<=n0/\i=.int .i64 j/\Hid (Below u1.heap.size u1 wr)) (λi _=>n0-(intOf i).toNat)
  case atStart=>exact ⟨0,by omega,rfl,bg⟩
  case round =>
   clear bg;obtain ⟨j,hj,rfl,bg⟩:=hrel;have kp:=(HP.out.on bg.out).cell 0 _ rfl;by_cases hgo:j<n0
   ·obtain ⟨b1,aJ,gb,hv1,hx1⟩:=Row.some ig.out.types (by omega);injection hv1 with cJ e11 e12;subst cJ;clear e11 e12;obtain ⟨b2,dZ,cap2,hv2,hx2⟩:=Row.some nG.out.types (by omega);injection hv2 with kQ ng ni;subst kQ;clear ng ni;obtain ⟨x,hxk⟩:∃x,m.types[j]?=some x:=⟨_,aY (by omega)⟩;have HX:=aa ((hx1 j x hxk).on bg.out);have HY:=aa ((hx2 j x hxk).on bg.out);clear hx1 hx2 hxk ig nG HM HK;obtain ⟨⟨v1,bN,a1⟩,⟨v2,cF,a2⟩⟩:=HX.out;obtain ⟨q1,z1,rfl⟩:=Row.len a1;have wC:=aa a1;clear a1;obtain ⟨q2,z2,rfl⟩:=Row.len a2;have wD:=aa a2;clear a2;obtain ⟨⟨v1,mR,a1⟩,⟨v2,nE,a2⟩⟩:=HY.out;obtain ⟨r1,t1,rfl⟩:=Row.len a1;have Ik:=aa a1;clear a1;obtain ⟨r2,t2,rfl⟩:=Row.len a2;have Il:=aa a2;clear a2;generalize hy1:x.params.length=y1 at *;generalize hy2:x.results.length=y2 at *;go_upto_region 6 with fail;refine ai.xG 30 25 303 [.pointer (some ⟨p1,0,none⟩),.slice (some ⟨b1,aJ,none⟩) n0 k0,.int .i64 j,.pointer (some ⟨b1,aJ+j*2,none⟩),.pointer (some ⟨b1,aJ+j*2,none⟩),.slice q1 y1 z1,.pointer (some ⟨p2,0,none⟩),.slice (some ⟨b2,dZ,none⟩) n0 h0,.int .i64 j,.pointer (some ⟨b2,dZ+j*2,none⟩),.pointer (some ⟨b2,dZ+j*2,none⟩),.slice r1 y1 t1,.bool true,.bool false,.bool false,.pointer (some ⟨p1,0,none⟩),.slice (some ⟨b1,aJ,none⟩) n0 k0,.int .i64 j,.pointer (some ⟨b1,aJ+j*2,none⟩),.pointer (some ⟨b1,aJ+j*2+1,none⟩),.slice q2 y2 z2,.pointer (some ⟨p2,0,none⟩),.slice (some ⟨b2,dZ,none⟩) n0 h0,.int .i64 j,.pointer (some ⟨b2,dZ+j*2,none⟩),.pointer (some ⟨b2,dZ+j*2+1,none⟩),.slice r2 y2 t2,.bool true,.bool false,.bool false] (by kernel_rfl) (by kernel_rfl) (by kernel_rfl) rfl ?hstep ?hend
    case hstep =>
     intro i o a w hi ho hF hB hd;have yU:=(HP.out.on (bg.out.trans (hB.mono bg.out.size))).cell 0 _ rfl;have vT:=(HQ.out.on (bg.out.trans (hB.mono bg.out.size))).cell 0 _ rfl;have qO:=aj hB bN;have qP:=aj hB cF;have yV:=aj hB mR;have yX:=aj hB nE;have f2:a.tmps[2]?.getD undef=.pointer (some ⟨p1,0,none⟩):=ai.av (hF.eval 2 (λi hi=>by show 25+i≠2;omega));have f3:a.tmps[3]?.getD undef=.pointer (some ⟨p2,0,none⟩):=ai.av (hF.eval 3 (λi hi=>by show 25+i≠3;omega));have f5:a.tmps[5]?.getD undef=.int .i64 j:=ai.av (hF.eval 5 (λi hi=>by show 25+i≠5;omega))
     iterate 30 (rcases Nat.lt_succ_iff_lt_or_eq.1 hi with hi|rfl)
     exact absurd hi (Nat.not_lt_zero _)
     all_goals (
      simp only [fI,gX,gz,gA] at ho;subst ho
      first
      | refine ai.Does.go rfl (ai.az λK hK=>?_)
      | refine ai.vA rfl rfl rfl rfl (hd _ (by decide)) (ai.az λK hK=>?_)
      simp [ai.deps,Region.binds] at hd;go_simp
      first|exact hK _ _ ⟨_,rfl,Below.refl _ _,rfl⟩|(have h9:=(Aq _ _ _ _ w (wC.out.on hB) (Ik.out.on hB));with_reducible refine h9.mono ?_;rintro e w' ⟨rfl,hw⟩;exact hK _ _ ⟨_,rfl,aA.BX hw,by simp [ai.qB]⟩)|(have h9:=(Aq _ _ _ _ w (wD.out.on hB) (Il.out.on hB));with_reducible refine h9.mono ?_;rintro e w' ⟨rfl,hw⟩;exact hK _ _ ⟨_,rfl,aA.BX hw,by simp [ai.qB]⟩))
    case hend =>
     intro a w2 hF hB hG;have gl:a.eval (.tmp 54)=.bool false:=hG 29 (by omega);have HW2:=aa (bg.out.trans (hB.mono bg.out.size));obtain ⟨xl,hxl,rfl,hev⟩:=hF.lit (by simp);rw [hev 29 (by omega)] at gl;obtain ⟨x0,x1,x2,x3,x4,x5,x6,x7,x8,x9,bZ,ez,eB,eC,eD,eF,eG,eH,eM,fF,gq,gS,iL,iM,jN,ll,lq,nQ,nk,pO,rfl⟩:=NI hxl;obtain rfl:pO=.bool false:=gl;clear hev hxl hF hG hB;simp only [iH,iI,fK,fB,iy,ed];go_wp2;go_roundw
     case rel=>exact ⟨j+1,by omega,by go_num,HW2⟩
     case measure=>simp [intOf];omega
   obtain rfl:n0=j:=by omega
   go_wp2_with fail;go_loopw [6] (λi wr=>∃j:Nat,j<=n1/\i=.int .i64 j/\Hid (Below u1.heap.size u1 wr)) (λi _=>n1-(intOf i).toNat)
   case atStart=>exact ⟨0,by omega,rfl,bg⟩
   case round =>
    clear bg;obtain ⟨j,hj,rfl,bg⟩:=hrel;have kp:=(HP.out.on bg.out).cell 1 _ rfl;by_cases hgo:j<n1
    ·obtain ⟨b1,aJ,gb,hv1,hx1⟩:=Row.some ig.out.imports (by omega);injection hv1 with cJ e11 e12;subst cJ;clear e11 e12;obtain ⟨b2,dZ,cap2,hv2,hx2⟩:=Row.some nG.out.imports (by omega);injection hv2 with kQ ng ni;subst kQ;clear ng ni;obtain ⟨x,hxk⟩:∃x,m.imports[j]?=some x:=⟨_,aY (by omega)⟩;have HX:=aa ((hx1 j x hxk).on bg.out);have HY:=aa ((hx2 j x hxk).on bg.out);clear hx1 hx2 hxk ig nG HM HK;obtain ⟨bN,cF,dn⟩:=HX.out;obtain ⟨mR,nE,qM⟩:=HY.out;go_upto_region 11 with fail;refine ai.xG 11 62 303 [.pointer (some ⟨p1,1,none⟩),.slice (some ⟨b1,aJ,none⟩) n1 k1,.int .i64 j,.pointer (some ⟨b1,aJ+j*3,none⟩),.agg #[.string x.mod,.string x.name,.int .i64 x.type],.pointer (some ⟨p2,1,none⟩),.slice (some ⟨b2,dZ,none⟩) n1 h1,.int .i64 j,.pointer (some ⟨b2,dZ+j*3,none⟩),.agg #[.string x.mod,.string x.name,.int .i64 x.type],.bool false] (by kernel_rfl) (by kernel_rfl) (by kernel_rfl) rfl ?hstep ?hend
     case hstep =>
      intro i o a w hi ho hF hB hd;have yU:=(HP.out.on (bg.out.trans (hB.mono bg.out.size))).cell 1 _ rfl;have vT:=(HQ.out.on (bg.out.trans (hB.mono bg.out.size))).cell 1 _ rfl;have qO:=aj hB bN;have qP:=aj hB cF;have rR:=aj hB dn;have yV:=aj hB mR;have yX:=aj hB nE;have Ab:=aj hB qM;have f2:a.tmps[2]?.getD undef=.pointer (some ⟨p1,0,none⟩):=ai.av (hF.eval 2 (λi hi=>by show 62+i≠2;omega));have f3:a.tmps[3]?.getD undef=.pointer (some ⟨p2,0,none⟩):=ai.av (hF.eval 3 (λi hi=>by show 62+i≠3;omega));have f6:a.tmps[6]?.getD undef=.int .i64 j:=ai.av (hF.eval 6 (λi hi=>by show 62+i≠6;omega))
      iterate 11 (rcases Nat.lt_succ_iff_lt_or_eq.1 hi with hi|rfl)
      exact absurd hi (Nat.not_lt_zero _)
      all_goals (
       simp only [fI,gX,gz,gA] at ho;subst ho
       first
       | refine ai.Does.go rfl (ai.az λK hK=>?_)
       | refine ai.vA rfl rfl rfl rfl (hd _ (by decide)) (ai.az λK hK=>?_)
       simp [ai.deps,Region.binds] at hd;go_simp
       first|exact hK _ _ ⟨_,rfl,Below.refl _ _,rfl⟩)
     case hend =>
      intro a w2 hF hB hG;have gl:a.eval (.tmp 72)=.bool false:=hG 10 (by omega);have HW2:=aa (bg.out.trans (hB.mono bg.out.size));obtain ⟨xl,hxl,rfl,hev⟩:=hF.lit (by simp);rw [hev 10 (by omega)] at gl;obtain ⟨x0,x1,x2,x3,x4,x5,x6,x7,x8,x9,bZ,rfl⟩:=E0 hxl;obtain rfl:bZ=.bool false:=gl;clear hev hxl hF hG hB;simp only [iH,iI,fK,fB,iy,ed];go_wp2;go_roundw
      case rel=>exact ⟨j+1,by omega,by go_num,HW2⟩
      case measure=>simp [intOf];omega
    obtain rfl:n1=j:=by omega
    go_wp2_with fail;go_loopw [7] (λi wr=>∃j:Nat,j<=n2/\i=.int .i64 j/\Hid (Below u1.heap.size u1 wr)) (λi _=>n2-(intOf i).toNat)
    case atStart=>exact ⟨0,by omega,rfl,bg⟩
    case round =>
     clear bg;obtain ⟨j,hj,rfl,bg⟩:=hrel;have kp:=(HP.out.on bg.out).cell 2 _ rfl;by_cases hgo:j<n2
     ·obtain ⟨b1,aJ,gb,hv1,hx1⟩:=Row.some ig.out.funcs (by omega);injection hv1 with cJ e11 e12;subst cJ;clear e11 e12;obtain ⟨b2,dZ,cap2,hv2,hx2⟩:=Row.some nG.out.funcs (by omega);injection hv2 with kQ ng ni;subst kQ;clear ng ni;obtain ⟨x,hxk⟩:∃x,m.funcs[j]?=some x:=⟨_,aY (by omega)⟩;have HX:=aa ((hx1 j x hxk).on bg.out);have HY:=aa ((hx2 j x hxk).on bg.out);clear hx1 hx2 hxk ig nG HM HK;obtain ⟨bN,⟨v1,cF,a1⟩,⟨v2,dn,a2⟩⟩:=HX.out;obtain ⟨q1,z1,rfl⟩:=Row.len a1;have wC:=aa a1;clear a1;obtain ⟨q2,z2,rfl⟩:=At.len d _ _ a2;have wD:=aa a2;clear a2;obtain ⟨mR,⟨v1,nE,a1⟩,⟨v2,qM,a2⟩⟩:=HY.out;obtain ⟨r1,t1,rfl⟩:=Row.len a1;have Ik:=aa a1;clear a1;obtain ⟨r2,t2,rfl⟩:=At.len d _ _ a2;have Il:=aa a2;clear a2;generalize hy1:x.locals.length=y1 at *;generalize hy2:size d x.body=y2 at *;go_upto_region 16 with fail;refine ai.xG 45 80 303 [.pointer (some ⟨p1,2,none⟩),.slice (some ⟨b1,aJ,none⟩) n2 k2,.int .i64 j,.pointer (some ⟨b1,aJ+j*3,none⟩),.pointer (some ⟨b1,aJ+j*3,none⟩),.int .i64 x.type,.pointer (some ⟨p2,2,none⟩),.slice (some ⟨b2,dZ,none⟩) n2 h2,.int .i64 j,.pointer (some ⟨b2,dZ+j*3,none⟩),.pointer (some ⟨b2,dZ+j*3,none⟩),.int .i64 x.type,.bool false,.bool false,.pointer (some ⟨p1,2,none⟩),.slice (some ⟨b1,aJ,none⟩) n2 k2,.int .i64 j,.pointer (some ⟨b1,aJ+j*3,none⟩),.pointer (some ⟨b1,aJ+j*3+1,none⟩),.slice q1 y1 z1,.pointer (some ⟨p2,2,none⟩),.slice (some ⟨b2,dZ,none⟩) n2 h2,.int .i64 j,.pointer (some ⟨b2,dZ+j*3,none⟩),.pointer (some ⟨b2,dZ+j*3+1,none⟩),.slice r1 y1 t1,.bool true,.bool false,.bool false,.bool false,.pointer (some ⟨p1,2,none⟩),.slice (some ⟨b1,aJ,none⟩) n2 k2,.int .i64 j,.pointer (some ⟨b1,aJ+j*3,none⟩),.pointer (some ⟨b1,aJ+j*3+2,none⟩),.slice q2 y2 z2,.pointer (some ⟨p2,2,none⟩),.slice (some ⟨b2,dZ,none⟩) n2 h2,.int .i64 j,.pointer (some ⟨b2,dZ+j*3,none⟩),.pointer (some ⟨b2,dZ+j*3+2,none⟩),.slice r2 y2 t2,.bool true,.bool false,.bool false] (by kernel_rfl) (by kernel_rfl) (by kernel_rfl) rfl ?hstep ?hend
      case hstep =>
       intro i o a w hi ho hF hB hd;have yU:=(HP.out.on (bg.out.trans (hB.mono bg.out.size))).cell 2 _ rfl;have vT:=(HQ.out.on (bg.out.trans (hB.mono bg.out.size))).cell 2 _ rfl;have qO:=aj hB bN;have qP:=aj hB cF;have rR:=aj hB dn;have yV:=aj hB mR;have yX:=aj hB nE;have Ab:=aj hB qM;have f2:a.tmps[2]?.getD undef=.pointer (some ⟨p1,0,none⟩):=ai.av (hF.eval 2 (λi hi=>by show 80+i≠2;omega));have f3:a.tmps[3]?.getD undef=.pointer (some ⟨p2,0,none⟩):=ai.av (hF.eval 3 (λi hi=>by show 80+i≠3;omega));have f7:a.tmps[7]?.getD undef=.int .i64 j:=ai.av (hF.eval 7 (λi hi=>by show 80+i≠7;omega))
       iterate 45 (rcases Nat.lt_succ_iff_lt_or_eq.1 hi with hi|rfl)
       exact absurd hi (Nat.not_lt_zero _)
       all_goals (
        simp only [fI,gX,gz,gA] at ho;subst ho
        first
        | refine ai.Does.go rfl (ai.az λK hK=>?_)
        | refine ai.vA rfl rfl rfl rfl (hd _ (by decide)) (ai.az λK hK=>?_)
        simp [ai.deps,Region.binds] at hd;go_simp
        first|exact hK _ _ ⟨_,rfl,Below.refl _ _,rfl⟩|(have h9:=(Aq _ _ _ _ w (wC.out.on hB) (Ik.out.on hB));with_reducible refine h9.mono ?_;rintro e w' ⟨rfl,hw⟩;exact hK _ _ ⟨_,rfl,aA.BX hw,by simp [ai.qB]⟩)|(have h9:=(Gg d _ _ _ _ w (At.on hB d _ _ wD.out) (At.on hB d _ _ Il.out));with_reducible refine h9.mono ?_;rintro e w' ⟨rfl,hw⟩;exact hK _ _ ⟨_,rfl,hw,by simp [ai.qB,DV]⟩))
      case hend =>
       intro a w2 hF hB hG;have gl:a.eval (.tmp 124)=.bool false:=hG 44 (by omega);have HW2:=aa (bg.out.trans (hB.mono bg.out.size));obtain ⟨xl,hxl,rfl,hev⟩:=hF.lit (by simp);rw [hev 44 (by omega)] at gl;obtain ⟨x0,x1,x2,x3,x4,x5,x6,x7,x8,x9,bZ,ez,eB,eC,eD,eF,eG,eH,eM,fF,gq,gS,iL,iM,jN,ll,lq,nQ,nk,pO,xH,xI,xJ,xK,xL,xM,xN,xO,xP,xQ,xR,xS,xU,vY,Dc,rfl⟩:=ZP hxl;obtain rfl:Dc=.bool false:=gl;clear hev hxl hF hG hB;simp only [iH,iI,fK,fB,iy,ed];go_wp2;go_roundw
       case rel=>exact ⟨j+1,by omega,by go_num,HW2⟩
       case measure=>simp [intOf];omega
     obtain rfl:n2=j:=by omega
     go_wp2_with fail;go_loopw [8] (λi wr=>∃j:Nat,j<=n3/\i=.int .i64 j/\Hid (Below u1.heap.size u1 wr)) (λi _=>n3-(intOf i).toNat)
     case atStart=>exact ⟨0,by omega,rfl,bg⟩
     case round =>
      clear bg;obtain ⟨j,hj,rfl,bg⟩:=hrel;have kp:=(HP.out.on bg.out).cell 3 _ rfl;by_cases hgo:j<n3
      ·obtain ⟨b1,aJ,gb,hv1,hx1⟩:=Row.some ig.out.tables (by omega);injection hv1 with cJ e11 e12;subst cJ;clear e11 e12;obtain ⟨b2,dZ,cap2,hv2,hx2⟩:=Row.some nG.out.tables (by omega);injection hv2 with kQ ng ni;subst kQ;clear ng ni;obtain ⟨x,hxk⟩:∃x,m.tables[j]?=some x:=⟨_,aY (by omega)⟩;have HX:=aa ((hx1 j x hxk).on bg.out);have HY:=aa ((hx2 j x hxk).on bg.out);clear hx1 hx2 hxk ig nG HM HK;obtain ⟨bN,cF,dn⟩:=HX.out;obtain ⟨mR,nE,qM⟩:=HY.out;go_upto_region 21 with fail;refine ai.xG 11 132 303 [.pointer (some ⟨p1,3,none⟩),.slice (some ⟨b1,aJ,none⟩) n3 k3,.int .i64 j,.pointer (some ⟨b1,aJ+j*3,none⟩),.agg #[.int .i64 x.min,.int .i64 x.max,.bool x.has],.pointer (some ⟨p2,3,none⟩),.slice (some ⟨b2,dZ,none⟩) n3 h3,.int .i64 j,.pointer (some ⟨b2,dZ+j*3,none⟩),.agg #[.int .i64 x.min,.int .i64 x.max,.bool x.has],.bool false] (by kernel_rfl) (by kernel_rfl) (by kernel_rfl) rfl ?hstep ?hend
       case hstep =>
        intro i o a w hi ho hF hB hd;have yU:=(HP.out.on (bg.out.trans (hB.mono bg.out.size))).cell 3 _ rfl;have vT:=(HQ.out.on (bg.out.trans (hB.mono bg.out.size))).cell 3 _ rfl;have qO:=aj hB bN;have qP:=aj hB cF;have rR:=aj hB dn;have yV:=aj hB mR;have yX:=aj hB nE;have Ab:=aj hB qM;have f2:a.tmps[2]?.getD undef=.pointer (some ⟨p1,0,none⟩):=ai.av (hF.eval 2 (λi hi=>by show 132+i≠2;omega));have f3:a.tmps[3]?.getD undef=.pointer (some ⟨p2,0,none⟩):=ai.av (hF.eval 3 (λi hi=>by show 132+i≠3;omega));have f8:a.tmps[8]?.getD undef=.int .i64 j:=ai.av (hF.eval 8 (λi hi=>by show 132+i≠8;omega))
        iterate 11 (rcases Nat.lt_succ_iff_lt_or_eq.1 hi with hi|rfl)
        exact absurd hi (Nat.not_lt_zero _)
        all_goals (
         simp only [fI,gX,gz,gA] at ho;subst ho
         first
         | refine ai.Does.go rfl (ai.az λK hK=>?_)
         | refine ai.vA rfl rfl rfl rfl (hd _ (by decide)) (ai.az λK hK=>?_)
         simp [ai.deps,Region.binds] at hd;go_simp
         first|exact hK _ _ ⟨_,rfl,Below.refl _ _,rfl⟩)
       case hend =>
        intro a w2 hF hB hG;have gl:a.eval (.tmp 142)=.bool false:=hG 10 (by omega);have HW2:=aa (bg.out.trans (hB.mono bg.out.size));obtain ⟨xl,hxl,rfl,hev⟩:=hF.lit (by simp);rw [hev 10 (by omega)] at gl;obtain ⟨x0,x1,x2,x3,x4,x5,x6,x7,x8,x9,bZ,rfl⟩:=E0 hxl;obtain rfl:bZ=.bool false:=gl;clear hev hxl hF hG hB;simp only [iH,iI,fK,fB,iy,ed];go_wp2;go_roundw
        case rel=>exact ⟨j+1,by omega,by go_num,HW2⟩
        case measure=>simp [intOf];omega
      obtain rfl:n3=j:=by omega
      go_wp2_with fail;go_loopw [9] (λi wr=>∃j:Nat,j<=n4/\i=.int .i64 j/\Hid (Below u1.heap.size u1 wr)) (λi _=>n4-(intOf i).toNat)
      case atStart=>exact ⟨0,by omega,rfl,bg⟩
      case round =>
       clear bg;obtain ⟨j,hj,rfl,bg⟩:=hrel;have kp:=(HP.out.on bg.out).cell 4 _ rfl;by_cases hgo:j<n4
       ·obtain ⟨b1,aJ,gb,hv1,hx1⟩:=Row.some ig.out.aD (by omega);injection hv1 with cJ e11 e12;subst cJ;clear e11 e12;obtain ⟨b2,dZ,cap2,hv2,hx2⟩:=Row.some nG.out.aD (by omega);injection hv2 with kQ ng ni;subst kQ;clear ng ni;obtain ⟨x,hxk⟩:∃x,m.aD[j]?=some x:=⟨_,aY (by omega)⟩;have HX:=aa ((hx1 j x hxk).on bg.out);have HY:=aa ((hx2 j x hxk).on bg.out);clear hx1 hx2 hxk ig nG HM HK;obtain ⟨bN,cF,dn⟩:=HX.out;obtain ⟨mR,nE,qM⟩:=HY.out;go_upto_region 26 with fail;refine ai.xG 11 150 303 [.pointer (some ⟨p1,4,none⟩),.slice (some ⟨b1,aJ,none⟩) n4 k4,.int .i64 j,.pointer (some ⟨b1,aJ+j*3,none⟩),.agg #[.int .i64 x.min,.int .i64 x.max,.bool x.has],.pointer (some ⟨p2,4,none⟩),.slice (some ⟨b2,dZ,none⟩) n4 h4,.int .i64 j,.pointer (some ⟨b2,dZ+j*3,none⟩),.agg #[.int .i64 x.min,.int .i64 x.max,.bool x.has],.bool false] (by kernel_rfl) (by kernel_rfl) (by kernel_rfl) rfl ?hstep ?hend
        case hstep =>
         intro i o a w hi ho hF hB hd;have yU:=(HP.out.on (bg.out.trans (hB.mono bg.out.size))).cell 4 _ rfl;have vT:=(HQ.out.on (bg.out.trans (hB.mono bg.out.size))).cell 4 _ rfl;have qO:=aj hB bN;have qP:=aj hB cF;have rR:=aj hB dn;have yV:=aj hB mR;have yX:=aj hB nE;have Ab:=aj hB qM;have f2:a.tmps[2]?.getD undef=.pointer (some ⟨p1,0,none⟩):=ai.av (hF.eval 2 (λi hi=>by show 150+i≠2;omega));have f3:a.tmps[3]?.getD undef=.pointer (some ⟨p2,0,none⟩):=ai.av (hF.eval 3 (λi hi=>by show 150+i≠3;omega));have f9:a.tmps[9]?.getD undef=.int .i64 j:=ai.av (hF.eval 9 (λi hi=>by show 150+i≠9;omega))
         iterate 11 (rcases Nat.lt_succ_iff_lt_or_eq.1 hi with hi|rfl)
         exact absurd hi (Nat.not_lt_zero _)
         all_goals (
          simp only [fI,gX,gz,gA] at ho;subst ho
          first
          | refine ai.Does.go rfl (ai.az λK hK=>?_)
          | refine ai.vA rfl rfl rfl rfl (hd _ (by decide)) (ai.az λK hK=>?_)
          simp [ai.deps,Region.binds] at hd;go_simp
          first|exact hK _ _ ⟨_,rfl,Below.refl _ _,rfl⟩)
        case hend =>
         intro a w2 hF hB hG;have gl:a.eval (.tmp 160)=.bool false:=hG 10 (by omega);have HW2:=aa (bg.out.trans (hB.mono bg.out.size));obtain ⟨xl,hxl,rfl,hev⟩:=hF.lit (by simp);rw [hev 10 (by omega)] at gl;obtain ⟨x0,x1,x2,x3,x4,x5,x6,x7,x8,x9,bZ,rfl⟩:=E0 hxl;obtain rfl:bZ=.bool false:=gl;clear hev hxl hF hG hB;simp only [iH,iI,fK,fB,iy,ed];go_wp2;go_roundw
         case rel=>exact ⟨j+1,by omega,by go_num,HW2⟩
         case measure=>simp [intOf];omega
       obtain rfl:n4=j:=by omega
       go_wp2_with fail;go_loopw [10] (λi wr=>∃j:Nat,j<=n5/\i=.int .i64 j/\Hid (Below u1.heap.size u1 wr)) (λi _=>n5-(intOf i).toNat)
       case atStart=>exact ⟨0,by omega,rfl,bg⟩
       case round =>
        clear bg;obtain ⟨j,hj,rfl,bg⟩:=hrel;have kp:=(HP.out.on bg.out).cell 5 _ rfl;by_cases hgo:j<n5
        ·obtain ⟨b1,aJ,gb,hv1,hx1⟩:=Row.some ig.out.globals (by omega);injection hv1 with cJ e11 e12;subst cJ;clear e11 e12;obtain ⟨b2,dZ,cap2,hv2,hx2⟩:=Row.some nG.out.globals (by omega);injection hv2 with kQ ng ni;subst kQ;clear ng ni;obtain ⟨x,hxk⟩:∃x,m.globals[j]?=some x:=⟨_,aY (by omega)⟩;have HX:=aa ((hx1 j x hxk).on bg.out);have HY:=aa ((hx2 j x hxk).on bg.out);clear hx1 hx2 hxk ig nG HM HK;obtain ⟨bN,cF,⟨dn,jO,jP,jQ,⟨v4,jR,a4⟩,⟨v5,nz,a5⟩,⟨v6,Am,a6⟩⟩⟩:=HX.out;obtain ⟨q4,z4,rfl⟩:=Row.len a4;have jX:=aa a4;clear a4;obtain ⟨q5,z5,rfl⟩:=At.len d _ _ a5;have jc:=aa a5;clear a5;obtain ⟨q6,z6,rfl⟩:=At.len d _ _ a6;have iP:=aa a6;clear a6;obtain ⟨mR,nE,⟨qM,De,Df,Dg,⟨v4,Dh,a4⟩,⟨v5,Di,a5⟩,⟨v6,ZV,a6⟩⟩⟩:=HY.out;obtain ⟨r4,t4,rfl⟩:=Row.len a4;have tq:=aa a4;clear a4;obtain ⟨r5,t5,rfl⟩:=At.len d _ _ a5;have qY:=aa a5;clear a5;obtain ⟨r6,t6,rfl⟩:=At.len d _ _ a6;have pW:=aa a6;clear a6;generalize oK:x.init.labels.length=y4 at *;generalize oM:size d x.init.body=y5 at *;generalize nC:size d x.init.els=y6 at *;go_upto_region 31 with fail;refine ai.xG 44 168 303 [.pointer (some ⟨p1,5,none⟩),.slice (some ⟨b1,aJ,none⟩) n5 k5,.int .i64 j,.pointer (some ⟨b1,aJ+j*9,none⟩),.pointer (some ⟨b1,aJ+j*9,none⟩),.int .i64 x.type,.pointer (some ⟨p2,5,none⟩),.slice (some ⟨b2,dZ,none⟩) n5 h5,.int .i64 j,.pointer (some ⟨b2,dZ+j*9,none⟩),.pointer (some ⟨b2,dZ+j*9,none⟩),.int .i64 x.type,.bool false,.bool false,.pointer (some ⟨p1,5,none⟩),.slice (some ⟨b1,aJ,none⟩) n5 k5,.int .i64 j,.pointer (some ⟨b1,aJ+j*9,none⟩),.pointer (some ⟨b1,aJ+j*9+1,none⟩),.bool x.jL,.pointer (some ⟨p2,5,none⟩),.slice (some ⟨b2,dZ,none⟩) n5 h5,.int .i64 j,.pointer (some ⟨b2,dZ+j*9,none⟩),.pointer (some ⟨b2,dZ+j*9+1,none⟩),.bool x.jL,.bool false,.bool false,.bool false,.pointer (some ⟨p1,5,none⟩),.slice (some ⟨b1,aJ,none⟩) n5 k5,.int .i64 j,.pointer (some ⟨b1,aJ+j*9,none⟩),.pointer (some ⟨b1,aJ+j*9+2,none⟩),.agg #[.int .i64 x.init.op,.int .i64 x.init.a,.int .i64 x.init.b,.int .i64 x.init.n,.slice q4 y4 z4,.slice q5 y5 z5,.slice q6 y6 z6],.pointer (some ⟨p2,5,none⟩),.slice (some ⟨b2,dZ,none⟩) n5 h5,.int .i64 j,.pointer (some ⟨b2,dZ+j*9,none⟩),.pointer (some ⟨b2,dZ+j*9+2,none⟩),.agg #[.int .i64 x.init.op,.int .i64 x.init.a,.int .i64 x.init.b,.int .i64 x.init.n,.slice r4 y4 t4,.slice r5 y5 t5,.slice r6 y6 t6],.bool true,.bool false,.bool false] (by kernel_rfl) (by kernel_rfl) (by kernel_rfl) rfl ?hstep ?hend
         case hstep =>
          intro i o a w hi ho hF hB hd;have yU:=(HP.out.on (bg.out.trans (hB.mono bg.out.size))).cell 5 _ rfl;have vT:=(HQ.out.on (bg.out.trans (hB.mono bg.out.size))).cell 5 _ rfl;have qO:=aj hB bN;have qP:=aj hB cF;have rR:=aj hB dn;have zm:=aj hB jO;have zn:=aj hB jP;have zo:=aj hB jQ;have zq:=aj hB jR;have zr:=aj hB nz;have Fs:=aj hB Am;have yV:=aj hB mR;have yX:=aj hB nE;have Ab:=aj hB qM;have NK:=aj hB De;have NL:=aj hB Df;have NM:=aj hB Dg;have NN:=aj hB Dh;have NQ:=aj hB Di;have ky8:=aj hB ZV;have f2:a.tmps[2]?.getD undef=.pointer (some ⟨p1,0,none⟩):=ai.av (hF.eval 2 (λi hi=>by show 168+i≠2;omega));have f3:a.tmps[3]?.getD undef=.pointer (some ⟨p2,0,none⟩):=ai.av (hF.eval 3 (λi hi=>by show 168+i≠3;omega));have f10:a.tmps[10]?.getD undef=.int .i64 j:=ai.av (hF.eval 10 (λi hi=>by show 168+i≠10;omega))
          iterate 44 (rcases Nat.lt_succ_iff_lt_or_eq.1 hi with hi|rfl)
          exact absurd hi (Nat.not_lt_zero _)
          all_goals (
           simp only [fI,gX,gz,gA] at ho;subst ho
           first
           | refine ai.Does.go rfl (ai.az λK hK=>?_)
           | refine ai.vA rfl rfl rfl rfl (hd _ (by decide)) (ai.az λK hK=>?_)
           simp [ai.deps,Region.binds] at hd;go_simp
           first|exact hK _ _ ⟨_,rfl,Below.refl _ _,rfl⟩|(have h9:=(Gh d _ _ _ _ _ _ _ _ _ _ _ _ _ _ _ _ _ _ _ _ w (jX.out.on hB) (At.on hB d _ _ jc.out) (At.on hB d _ _ iP.out) (tq.out.on hB) (At.on hB d _ _ qY.out) (At.on hB d _ _ pW.out));with_reducible refine h9.mono ?_;rintro e w' ⟨rfl,hw⟩;exact hK _ _ ⟨_,rfl,hw,by simp [ai.qB,FJ]⟩))
         case hend =>
          intro a w2 hF hB hG;have gl:a.eval (.tmp 211)=.bool false:=hG 43 (by omega);have HW2:=aa (bg.out.trans (hB.mono bg.out.size));obtain ⟨xl,hxl,rfl,hev⟩:=hF.lit (by simp);rw [hev 43 (by omega)] at gl;obtain ⟨x0,x1,x2,x3,x4,x5,x6,x7,x8,x9,bZ,ez,eB,eC,eD,eF,eG,eH,eM,fF,gq,gS,iL,iM,jN,ll,lq,nQ,nk,pO,xH,xI,xJ,xK,xL,xM,xN,xO,xP,xQ,xR,xS,xU,vY,rfl⟩:=ZR hxl;obtain rfl:vY=.bool false:=gl;clear hev hxl hF hG hB;simp only [iH,iI,fK,fB,iy,ed];go_wp2;go_roundw
          case rel=>exact ⟨j+1,by omega,by go_num,HW2⟩
          case measure=>simp [intOf];omega
        obtain rfl:n5=j:=by omega
        go_wp2_with fail;go_loopw [11] (λi wr=>∃j:Nat,j<=n6/\i=.int .i64 j/\Hid (Below u1.heap.size u1 wr)) (λi _=>n6-(intOf i).toNat)
        case atStart=>exact ⟨0,by omega,rfl,bg⟩
        case round =>
         clear bg;obtain ⟨j,hj,rfl,bg⟩:=hrel;have kp:=(HP.out.on bg.out).cell 6 _ rfl;by_cases hgo:j<n6
         ·obtain ⟨b1,aJ,gb,hv1,hx1⟩:=Row.some ig.out.exports (by omega);injection hv1 with cJ e11 e12;subst cJ;clear e11 e12;obtain ⟨b2,dZ,cap2,hv2,hx2⟩:=Row.some nG.out.exports (by omega);injection hv2 with kQ ng ni;subst kQ;clear ng ni;obtain ⟨x,hxk⟩:∃x,m.exports[j]?=some x:=⟨_,aY (by omega)⟩;have HX:=aa ((hx1 j x hxk).on bg.out);have HY:=aa ((hx2 j x hxk).on bg.out);clear hx1 hx2 hxk ig nG HM HK;obtain ⟨bN,cF,dn⟩:=HX.out;obtain ⟨mR,nE,qM⟩:=HY.out;go_upto_region 36 with fail;refine ai.xG 11 219 303 [.pointer (some ⟨p1,6,none⟩),.slice (some ⟨b1,aJ,none⟩) n6 k6,.int .i64 j,.pointer (some ⟨b1,aJ+j*3,none⟩),.agg #[.string x.name,.int .i64 x.kind,.int .i64 x.index],.pointer (some ⟨p2,6,none⟩),.slice (some ⟨b2,dZ,none⟩) n6 h6,.int .i64 j,.pointer (some ⟨b2,dZ+j*3,none⟩),.agg #[.string x.name,.int .i64 x.kind,.int .i64 x.index],.bool false] (by kernel_rfl) (by kernel_rfl) (by kernel_rfl) rfl ?hstep ?hend
          case hstep =>
           intro i o a w hi ho hF hB hd;have yU:=(HP.out.on (bg.out.trans (hB.mono bg.out.size))).cell 6 _ rfl;have vT:=(HQ.out.on (bg.out.trans (hB.mono bg.out.size))).cell 6 _ rfl;have qO:=aj hB bN;have qP:=aj hB cF;have rR:=aj hB dn;have yV:=aj hB mR;have yX:=aj hB nE;have Ab:=aj hB qM;have f2:a.tmps[2]?.getD undef=.pointer (some ⟨p1,0,none⟩):=ai.av (hF.eval 2 (λi hi=>by show 219+i≠2;omega));have f3:a.tmps[3]?.getD undef=.pointer (some ⟨p2,0,none⟩):=ai.av (hF.eval 3 (λi hi=>by show 219+i≠3;omega));have f11:a.tmps[11]?.getD undef=.int .i64 j:=ai.av (hF.eval 11 (λi hi=>by show 219+i≠11;omega))
           iterate 11 (rcases Nat.lt_succ_iff_lt_or_eq.1 hi with hi|rfl)
           exact absurd hi (Nat.not_lt_zero _)
           all_goals (
            simp only [fI,gX,gz,gA] at ho;subst ho
            first
            | refine ai.Does.go rfl (ai.az λK hK=>?_)
            | refine ai.vA rfl rfl rfl rfl (hd _ (by decide)) (ai.az λK hK=>?_)
            simp [ai.deps,Region.binds] at hd;go_simp
            first|exact hK _ _ ⟨_,rfl,Below.refl _ _,rfl⟩)
          case hend =>
           intro a w2 hF hB hG;have gl:a.eval (.tmp 229)=.bool false:=hG 10 (by omega);have HW2:=aa (bg.out.trans (hB.mono bg.out.size));obtain ⟨xl,hxl,rfl,hev⟩:=hF.lit (by simp);rw [hev 10 (by omega)] at gl;obtain ⟨x0,x1,x2,x3,x4,x5,x6,x7,x8,x9,bZ,rfl⟩:=E0 hxl;obtain rfl:bZ=.bool false:=gl;clear hev hxl hF hG hB;simp only [iH,iI,fK,fB,iy,ed];go_wp2;go_roundw
           case rel=>exact ⟨j+1,by omega,by go_num,HW2⟩
           case measure=>simp [intOf];omega
         obtain rfl:n6=j:=by omega
         go_wp2_with fail;go_loopw [12] (λi wr=>∃j:Nat,j<=n8/\i=.int .i64 j/\Hid (Below u1.heap.size u1 wr)) (λi _=>n8-(intOf i).toNat)
         case atStart=>exact ⟨0,by omega,rfl,bg⟩
         case round =>
          clear bg;obtain ⟨j,hj,rfl,bg⟩:=hrel;have kp:=(HP.out.on bg.out).cell 8 _ rfl;by_cases hgo:j<n8
          ·obtain ⟨b1,aJ,gb,hv1,hx1⟩:=Row.some ig.out.elems (by omega);injection hv1 with cJ e11 e12;subst cJ;clear e11 e12;obtain ⟨b2,dZ,cap2,hv2,hx2⟩:=Row.some nG.out.elems (by omega);injection hv2 with kQ ng ni;subst kQ;clear ng ni;obtain ⟨x,hxk⟩:∃x,m.elems[j]?=some x:=⟨_,aY (by omega)⟩;have HX:=aa ((hx1 j x hxk).on bg.out);have HY:=aa ((hx2 j x hxk).on bg.out);clear hx1 hx2 hxk ig nG HM HK;obtain ⟨⟨bN,cF,dn,jO,⟨v4,jP,a4⟩,⟨v5,jQ,a5⟩,⟨v6,jR,a6⟩⟩,⟨v7,nz,a7⟩⟩:=HX.out;obtain ⟨q4,z4,rfl⟩:=Row.len a4;have jX:=aa a4;clear a4;obtain ⟨q5,z5,rfl⟩:=At.len d _ _ a5;have jc:=aa a5;clear a5;obtain ⟨q6,z6,rfl⟩:=At.len d _ _ a6;have iP:=aa a6;clear a6;obtain ⟨q7,z7,rfl⟩:=Row.len a7;have BL:=aa a7;clear a7;obtain ⟨⟨mR,nE,qM,De,⟨v4,Df,a4⟩,⟨v5,Dg,a5⟩,⟨v6,Dh,a6⟩⟩,⟨v7,Di,a7⟩⟩:=HY.out;obtain ⟨r4,t4,rfl⟩:=Row.len a4;have tq:=aa a4;clear a4;obtain ⟨r5,t5,rfl⟩:=At.len d _ _ a5;have qY:=aa a5;clear a5;obtain ⟨r6,t6,rfl⟩:=At.len d _ _ a6;have pW:=aa a6;clear a6;obtain ⟨r7,t7,rfl⟩:=Row.len a7;have ZW:=aa a7;clear a7;generalize oK:x.offset.labels.length=y4 at *;generalize oM:size d x.offset.body=y5 at *;generalize nC:size d x.offset.els=y6 at *;generalize DD:x.funcs.length=y7 at *;go_upto_region 41 with fail;refine ai.xG 30 237 303 [.pointer (some ⟨p1,8,none⟩),.slice (some ⟨b1,aJ,none⟩) n8 k8,.int .i64 j,.pointer (some ⟨b1,aJ+j*8,none⟩),.pointer (some ⟨b1,aJ+j*8,none⟩),.agg #[.int .i64 x.offset.op,.int .i64 x.offset.a,.int .i64 x.offset.b,.int .i64 x.offset.n,.slice q4 y4 z4,.slice q5 y5 z5,.slice q6 y6 z6],.pointer (some ⟨p2,8,none⟩),.slice (some ⟨b2,dZ,none⟩) n8 h8,.int .i64 j,.pointer (some ⟨b2,dZ+j*8,none⟩),.pointer (some ⟨b2,dZ+j*8,none⟩),.agg #[.int .i64 x.offset.op,.int .i64 x.offset.a,.int .i64 x.offset.b,.int .i64 x.offset.n,.slice r4 y4 t4,.slice r5 y5 t5,.slice r6 y6 t6],.bool true,.bool false,.bool false,.pointer (some ⟨p1,8,none⟩),.slice (some ⟨b1,aJ,none⟩) n8 k8,.int .i64 j,.pointer (some ⟨b1,aJ+j*8,none⟩),.pointer (some ⟨b1,aJ+j*8+7,none⟩),.slice q7 y7 z7,.pointer (some ⟨p2,8,none⟩),.slice (some ⟨b2,dZ,none⟩) n8 h8,.int .i64 j,.pointer (some ⟨b2,dZ+j*8,none⟩),.pointer (some ⟨b2,dZ+j*8+7,none⟩),.slice r7 y7 t7,.bool true,.bool false,.bool false] (by kernel_rfl) (by kernel_rfl) (by kernel_rfl) rfl ?hstep ?hend
           case hstep =>
            intro i o a w hi ho hF hB hd;have yU:=(HP.out.on (bg.out.trans (hB.mono bg.out.size))).cell 8 _ rfl;have vT:=(HQ.out.on (bg.out.trans (hB.mono bg.out.size))).cell 8 _ rfl;have qO:=aj hB bN;have qP:=aj hB cF;have rR:=aj hB dn;have zm:=aj hB jO;have zn:=aj hB jP;have zo:=aj hB jQ;have zq:=aj hB jR;have zr:=aj hB nz;have yV:=aj hB mR;have yX:=aj hB nE;have Ab:=aj hB qM;have NK:=aj hB De;have NL:=aj hB Df;have NM:=aj hB Dg;have NN:=aj hB Dh;have NQ:=aj hB Di;have f2:a.tmps[2]?.getD undef=.pointer (some ⟨p1,0,none⟩):=ai.av (hF.eval 2 (λi hi=>by show 237+i≠2;omega));have f3:a.tmps[3]?.getD undef=.pointer (some ⟨p2,0,none⟩):=ai.av (hF.eval 3 (λi hi=>by show 237+i≠3;omega));have f12:a.tmps[12]?.getD undef=.int .i64 j:=ai.av (hF.eval 12 (λi hi=>by show 237+i≠12;omega))
            iterate 30 (rcases Nat.lt_succ_iff_lt_or_eq.1 hi with hi|rfl)
            exact absurd hi (Nat.not_lt_zero _)
            all_goals (
             simp only [fI,gX,gz,gA] at ho;subst ho
             first
             | refine ai.Does.go rfl (ai.az λK hK=>?_)
             | refine ai.vA rfl rfl rfl rfl (hd _ (by decide)) (ai.az λK hK=>?_)
             simp [ai.deps,Region.binds] at hd;go_simp
             first|exact hK _ _ ⟨_,rfl,Below.refl _ _,rfl⟩|(have h9:=(Aq _ _ _ _ w (BL.out.on hB) (ZW.out.on hB));with_reducible refine h9.mono ?_;rintro e w' ⟨rfl,hw⟩;exact hK _ _ ⟨_,rfl,aA.BX hw,by simp [ai.qB]⟩)|(have h9:=(Gh d _ _ _ _ _ _ _ _ _ _ _ _ _ _ _ _ _ _ _ _ w (jX.out.on hB) (At.on hB d _ _ jc.out) (At.on hB d _ _ iP.out) (tq.out.on hB) (At.on hB d _ _ qY.out) (At.on hB d _ _ pW.out));with_reducible refine h9.mono ?_;rintro e w' ⟨rfl,hw⟩;exact hK _ _ ⟨_,rfl,hw,by simp [ai.qB,FJ]⟩))
           case hend =>
            intro a w2 hF hB hG;have gl:a.eval (.tmp 266)=.bool false:=hG 29 (by omega);have HW2:=aa (bg.out.trans (hB.mono bg.out.size));obtain ⟨xl,hxl,rfl,hev⟩:=hF.lit (by simp);rw [hev 29 (by omega)] at gl;obtain ⟨x0,x1,x2,x3,x4,x5,x6,x7,x8,x9,bZ,ez,eB,eC,eD,eF,eG,eH,eM,fF,gq,gS,iL,iM,jN,ll,lq,nQ,nk,pO,rfl⟩:=NI hxl;obtain rfl:pO=.bool false:=gl;clear hev hxl hF hG hB;simp only [iH,iI,fK,fB,iy,ed];go_wp2;go_roundw
            case rel=>exact ⟨j+1,by omega,by go_num,HW2⟩
            case measure=>simp [intOf];omega
          obtain rfl:n8=j:=by omega
          go_wp2_with fail;go_loopw [13] (λi wr=>∃j:Nat,j<=n9/\i=.int .i64 j/\Hid (Below u1.heap.size u1 wr)) (λi _=>n9-(intOf i).toNat)
          case atStart=>exact ⟨0,by omega,rfl,bg⟩
          case round =>
           clear bg;obtain ⟨j,hj,rfl,bg⟩:=hrel;have kp:=(HP.out.on bg.out).cell 9 _ rfl;by_cases hgo:j<n9
           ·obtain ⟨b1,aJ,gb,hv1,hx1⟩:=Row.some ig.out.ax (by omega);injection hv1 with cJ e11 e12;subst cJ;clear e11 e12;obtain ⟨b2,dZ,cap2,hv2,hx2⟩:=Row.some nG.out.ax (by omega);injection hv2 with kQ ng ni;subst kQ;clear ng ni;obtain ⟨x,hxk⟩:∃x,m.ax[j]?=some x:=⟨_,aY (by omega)⟩;have HX:=aa ((hx1 j x hxk).on bg.out);have HY:=aa ((hx2 j x hxk).on bg.out);clear hx1 hx2 hxk ig nG HM HK;obtain ⟨⟨bN,cF,dn,jO,⟨v4,jP,a4⟩,⟨v5,jQ,a5⟩,⟨v6,jR,a6⟩⟩,nz⟩:=HX.out;obtain ⟨q4,z4,rfl⟩:=Row.len a4;have jX:=aa a4;clear a4;obtain ⟨q5,z5,rfl⟩:=At.len d _ _ a5;have jc:=aa a5;clear a5;obtain ⟨q6,z6,rfl⟩:=At.len d _ _ a6;have iP:=aa a6;clear a6;obtain ⟨⟨mR,nE,qM,De,⟨v4,Df,a4⟩,⟨v5,Dg,a5⟩,⟨v6,Dh,a6⟩⟩,Di⟩:=HY.out;obtain ⟨r4,t4,rfl⟩:=Row.len a4;have tq:=aa a4;clear a4;obtain ⟨r5,t5,rfl⟩:=At.len d _ _ a5;have qY:=aa a5;clear a5;obtain ⟨r6,t6,rfl⟩:=At.len d _ _ a6;have pW:=aa a6;clear a6;generalize oK:x.offset.labels.length=y4 at *;generalize oM:size d x.offset.body=y5 at *;generalize nC:size d x.offset.els=y6 at *;go_upto_region 46 with fail;refine ai.xG 29 274 303 [.pointer (some ⟨p1,9,none⟩),.slice (some ⟨b1,aJ,none⟩) n9 k9,.int .i64 j,.pointer (some ⟨b1,aJ+j*8,none⟩),.pointer (some ⟨b1,aJ+j*8+7,none⟩),.string x.bytes,.pointer (some ⟨p2,9,none⟩),.slice (some ⟨b2,dZ,none⟩) n9 h9,.int .i64 j,.pointer (some ⟨b2,dZ+j*8,none⟩),.pointer (some ⟨b2,dZ+j*8+7,none⟩),.string x.bytes,.bool false,.bool false,.pointer (some ⟨p1,9,none⟩),.slice (some ⟨b1,aJ,none⟩) n9 k9,.int .i64 j,.pointer (some ⟨b1,aJ+j*8,none⟩),.pointer (some ⟨b1,aJ+j*8,none⟩),.agg #[.int .i64 x.offset.op,.int .i64 x.offset.a,.int .i64 x.offset.b,.int .i64 x.offset.n,.slice q4 y4 z4,.slice q5 y5 z5,.slice q6 y6 z6],.pointer (some ⟨p2,9,none⟩),.slice (some ⟨b2,dZ,none⟩) n9 h9,.int .i64 j,.pointer (some ⟨b2,dZ+j*8,none⟩),.pointer (some ⟨b2,dZ+j*8,none⟩),.agg #[.int .i64 x.offset.op,.int .i64 x.offset.a,.int .i64 x.offset.b,.int .i64 x.offset.n,.slice r4 y4 t4,.slice r5 y5 t5,.slice r6 y6 t6],.bool true,.bool false,.bool false] (by kernel_rfl) (by kernel_rfl) (by kernel_rfl) rfl ?hstep ?hend
            case hstep =>
             intro i o a w hi ho hF hB hd;have yU:=(HP.out.on (bg.out.trans (hB.mono bg.out.size))).cell 9 _ rfl;have vT:=(HQ.out.on (bg.out.trans (hB.mono bg.out.size))).cell 9 _ rfl;have qO:=aj hB bN;have qP:=aj hB cF;have rR:=aj hB dn;have zm:=aj hB jO;have zn:=aj hB jP;have zo:=aj hB jQ;have zq:=aj hB jR;have zr:=aj hB nz;have yV:=aj hB mR;have yX:=aj hB nE;have Ab:=aj hB qM;have NK:=aj hB De;have NL:=aj hB Df;have NM:=aj hB Dg;have NN:=aj hB Dh;have NQ:=aj hB Di;have f2:a.tmps[2]?.getD undef=.pointer (some ⟨p1,0,none⟩):=ai.av (hF.eval 2 (λi hi=>by show 274+i≠2;omega));have f3:a.tmps[3]?.getD undef=.pointer (some ⟨p2,0,none⟩):=ai.av (hF.eval 3 (λi hi=>by show 274+i≠3;omega));have f13:a.tmps[13]?.getD undef=.int .i64 j:=ai.av (hF.eval 13 (λi hi=>by show 274+i≠13;omega))
             iterate 29 (rcases Nat.lt_succ_iff_lt_or_eq.1 hi with hi|rfl)
             exact absurd hi (Nat.not_lt_zero _)
             all_goals (
              simp only [fI,gX,gz,gA] at ho;subst ho
              first
              | refine ai.Does.go rfl (ai.az λK hK=>?_)
              | refine ai.vA rfl rfl rfl rfl (hd _ (by decide)) (ai.az λK hK=>?_)
              simp [ai.deps,Region.binds] at hd;go_simp
              first|exact hK _ _ ⟨_,rfl,Below.refl _ _,rfl⟩|(have h9:=(Gh d _ _ _ _ _ _ _ _ _ _ _ _ _ _ _ _ _ _ _ _ w (jX.out.on hB) (At.on hB d _ _ jc.out) (At.on hB d _ _ iP.out) (tq.out.on hB) (At.on hB d _ _ qY.out) (At.on hB d _ _ pW.out));with_reducible refine h9.mono ?_;rintro e w' ⟨rfl,hw⟩;exact hK _ _ ⟨_,rfl,hw,by simp [ai.qB,FJ]⟩))
            case hend =>
             intro a w2 hF hB hG;have gl:a.eval (.tmp 302)=.bool false:=hG 28 (by omega);have HW2:=aa (bg.out.trans (hB.mono bg.out.size));obtain ⟨xl,hxl,rfl,hev⟩:=hF.lit (by simp);rw [hev 28 (by omega)] at gl;obtain ⟨x0,x1,x2,x3,x4,x5,x6,x7,x8,x9,bZ,ez,eB,eC,eD,eF,eG,eH,eM,fF,gq,gS,iL,iM,jN,ll,lq,nQ,nk,rfl⟩:=ZT hxl;obtain rfl:nk=.bool false:=gl;clear hev hxl hF hG hB;simp only [iH,iI,fK,fB,iy,ed];go_wp2;go_roundw
             case rel=>exact ⟨j+1,by omega,by go_num,HW2⟩
             case measure=>simp [intOf];omega
           obtain rfl:n9=j:=by omega
           go_wp2;go_ret;exact ⟨rfl,ky HU.out bg.out⟩
end Go.Proofs.YtmfcojpjpgldhaaGreatDoor
