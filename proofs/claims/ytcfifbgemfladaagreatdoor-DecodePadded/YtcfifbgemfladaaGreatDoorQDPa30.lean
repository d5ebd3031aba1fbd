/- Texts that the claim needs. -/
import Derived.Test.YtcfifbgemfladaaGreatDoorQDPa29
import Derived.Deep.CutRange
import Derived.Deep.RegionLaw
namespace Go.Proofs.YtcfifbgemfladaaGreatDoor
open Go.RowKit au Go.Proofs.Tryz
set_option linter.unusedVariables false
set_option maxRecDepth 100000
set_option maxHeartbeats 32000000
namespace au
theorem SJ {x:List Value} (h:x.length=30):∃x0 x1 x2 x3 x4 x5 x6 x7 x8 x9 cF gD gF gG gH gI gJ gK gm jF lC lD lF lG lH nK nL nM mP qh,x = [x0,x1,x2,x3,x4,x5,x6,x7,x8,x9,cF,gD,gF,gG,gH,gI,gJ,gK,gm,jF,lC,lD,lF,lG,lH,nK,nL,nM,mP,qh]:=by
 match x,h with
 | [x0,x1,x2,x3,x4,x5,x6,x7,x8,x9,cF,gD,gF,gG,gH,gI,gJ,gK,gm,jF,lC,lD,lF,lG,lH,nK,nL,nM,mP,qh],_=>exact ⟨x0,x1,x2,x3,x4,x5,x6,x7,x8,x9,cF,gD,gF,gG,gH,gI,gJ,gK,gm,jF,lC,lD,lF,lG,lH,nK,nL,nM,mP,qh,rfl⟩
theorem Hs {x:List Value} (h:x.length=11):∃x0 x1 x2 x3 x4 x5 x6 x7 x8 x9 cF,x = [x0,x1,x2,x3,x4,x5,x6,x7,x8,x9,cF]:=by
 match x,h with
 | [x0,x1,x2,x3,x4,x5,x6,x7,x8,x9,cF],_=>exact ⟨x0,x1,x2,x3,x4,x5,x6,x7,x8,x9,cF,rfl⟩
theorem SK {x:List Value} (h:x.length=25):∃x0 x1 x2 x3 x4 x5 x6 x7 x8 x9 cF gD gF gG gH gI gJ gK gm jF lC lD lF lG lH,x = [x0,x1,x2,x3,x4,x5,x6,x7,x8,x9,cF,gD,gF,gG,gH,gI,gJ,gK,gm,jF,lC,lD,lF,lG,lH]:=by
 match x,h with
 | [x0,x1,x2,x3,x4,x5,x6,x7,x8,x9,cF,gD,gF,gG,gH,gI,gJ,gK,gm,jF,lC,lD,lF,lG,lH],_=>exact ⟨x0,x1,x2,x3,x4,x5,x6,x7,x8,x9,cF,gD,gF,gG,gH,gI,gJ,gK,gm,jF,lC,lD,lF,lG,lH,rfl⟩
theorem adQ {x:List Value} (h:x.length=20):∃x0 x1 x2 x3 x4 x5 x6 x7 x8 x9 cF gD gF gG gH gI gJ gK gm jF,x = [x0,x1,x2,x3,x4,x5,x6,x7,x8,x9,cF,gD,gF,gG,gH,gI,gJ,gK,gm,jF]:=by
 match x,h with
 | [x0,x1,x2,x3,x4,x5,x6,x7,x8,x9,cF,gD,gF,gG,gH,gI,gJ,gK,gm,jF],_=>exact ⟨x0,x1,x2,x3,x4,x5,x6,x7,x8,x9,cF,gD,gF,gG,gH,gI,gJ,gK,gm,jF,rfl⟩
theorem adR {x:List Value} (h:x.length=45):∃x0 x1 x2 x3 x4 x5 x6 x7 x8 x9 cF gD gF gG gH gI gJ gK gm jF lC lD lF lG lH nK nL nM mP qh yD yE yF yG yH yI yJ yK yL yM yN yO yP xA Fs,x = [x0,x1,x2,x3,x4,x5,x6,x7,x8,x9,cF,gD,gF,gG,gH,gI,gJ,gK,gm,jF,lC,lD,lF,lG,lH,nK,nL,nM,mP,qh,yD,yE,yF,yG,yH,yI,yJ,yK,yL,yM,yN,yO,yP,xA,Fs]:=by
 obtain ⟨x0,x1,x2,x3,x4,x5,x6,x7,x8,x9,cF,gD,gF,gG,gH,gI,gJ,gK,gm,jF,lC,lD,lF,lG,lH,h1⟩:=SK (x:=x.take 25) (by rw [yY,h];rfl);obtain ⟨nK,nL,nM,mP,qh,yD,yE,yF,yG,yH,yI,yJ,yK,yL,yM,yN,yO,yP,xA,Fs,h2⟩:=adQ (x:=x.drop 25) (by rw [List.length_drop,h]);exact ⟨x0,x1,x2,x3,x4,x5,x6,x7,x8,x9,cF,gD,gF,gG,gH,gI,gJ,gK,gm,jF,lC,lD,lF,lG,lH,nK,nL,nM,mP,qh,yD,yE,yF,yG,yH,yI,yJ,yK,yL,yM,yN,yO,yP,xA,Fs,by rw [<- List.take_append_drop 25 x,h1,h2];rfl⟩
theorem adS {x:List Value} (h:x.length=19):∃x0 x1 x2 x3 x4 x5 x6 x7 x8 x9 cF gD gF gG gH gI gJ gK gm,x = [x0,x1,x2,x3,x4,x5,x6,x7,x8,x9,cF,gD,gF,gG,gH,gI,gJ,gK,gm]:=by
 match x,h with
 | [x0,x1,x2,x3,x4,x5,x6,x7,x8,x9,cF,gD,gF,gG,gH,gI,gJ,gK,gm],_=>exact ⟨x0,x1,x2,x3,x4,x5,x6,x7,x8,x9,cF,gD,gF,gG,gH,gI,gJ,gK,gm,rfl⟩
theorem adT {x:List Value} (h:x.length=44):∃x0 x1 x2 x3 x4 x5 x6 x7 x8 x9 cF gD gF gG gH gI gJ gK gm jF lC lD lF lG lH nK nL nM mP qh yD yE yF yG yH yI yJ yK yL yM yN yO yP xA,x = [x0,x1,x2,x3,x4,x5,x6,x7,x8,x9,cF,gD,gF,gG,gH,gI,gJ,gK,gm,jF,lC,lD,lF,lG,lH,nK,nL,nM,mP,qh,yD,yE,yF,yG,yH,yI,yJ,yK,yL,yM,yN,yO,yP,xA]:=by
 obtain ⟨x0,x1,x2,x3,x4,x5,x6,x7,x8,x9,cF,gD,gF,gG,gH,gI,gJ,gK,gm,jF,lC,lD,lF,lG,lH,h1⟩:=SK (x:=x.take 25) (by rw [yY,h];rfl);obtain ⟨nK,nL,nM,mP,qh,yD,yE,yF,yG,yH,yI,yJ,yK,yL,yM,yN,yO,yP,xA,h2⟩:=adS (x:=x.drop 25) (by rw [List.length_drop,h]);exact ⟨x0,x1,x2,x3,x4,x5,x6,x7,x8,x9,cF,gD,gF,gG,gH,gI,gJ,gK,gm,jF,lC,lD,lF,lG,lH,nK,nL,nM,mP,qh,yD,yE,yF,yG,yH,yI,yJ,yK,yL,yM,yN,yO,yP,xA,by rw [<- List.take_append_drop 25 x,h1,h2];rfl⟩
theorem adU {x:List Value} (h:x.length=29):∃x0 x1 x2 x3 x4 x5 x6 x7 x8 x9 cF gD gF gG gH gI gJ gK gm jF lC lD lF lG lH nK nL nM mP,x = [x0,x1,x2,x3,x4,x5,x6,x7,x8,x9,cF,gD,gF,gG,gH,gI,gJ,gK,gm,jF,lC,lD,lF,lG,lH,nK,nL,nM,mP]:=by
 match x,h with
 | [x0,x1,x2,x3,x4,x5,x6,x7,x8,x9,cF,gD,gF,gG,gH,gI,gJ,gK,gm,jF,lC,lD,lF,lG,lH,nK,nL,nM,mP],_=>exact ⟨x0,x1,x2,x3,x4,x5,x6,x7,x8,x9,cF,gD,gF,gG,gH,gI,gJ,gK,gm,jF,lC,lD,lF,lG,lH,nK,nL,nM,mP,rfl⟩
theorem adV {x:List Value} (h:x.length=4):∃x0 x1 x2 x3,x = [x0,x1,x2,x3]:=by
 match x,h with
 | [x0,x1,x2,x3],_=>exact ⟨x0,x1,x2,x3,rfl⟩
end au
theorem X8 (d:Nat) (v0 v1 v2 v3 v4 v5 v6 v7 v8 v9 u0 u1 u2 u3 u4 u5 u6 u7 u8 u9:Value) (m:Mod d) (w:AG) (hM:iG w d v0 v1 v2 v3 v4 v5 v6 v7 v8 v9 m) (hK:iG w d u0 u1 u2 u3 u4 u5 u6 u7 u8 u9 m):Calls prog 13 #[.agg #[v0,v1,v2,v3,v4,v5,v6,v7,v8,v9],.agg #[u0,u1,u2,u3,u4,u5,u6,u7,u8,u9]] w (λe w'=>e=.returned (.bool true)/\Below w.heap.size w w'):=by
 obtain ⟨o0,k0,rfl⟩:=Row.len hM.types;obtain ⟨o1,k1,rfl⟩:=Row.len hM.imports;obtain ⟨o2,k2,rfl⟩:=Row.len hM.funcs;obtain ⟨o3,k3,rfl⟩:=Row.len hM.tables;obtain ⟨o4,k4,rfl⟩:=Row.len hM.aF;obtain ⟨o5,k5,rfl⟩:=Row.len hM.globals;obtain ⟨o6,k6,rfl⟩:=Row.len hM.exports;obtain ⟨o7,k7,rfl⟩:=Row.len hM.start;obtain ⟨o8,k8,rfl⟩:=Row.len hM.elems;obtain ⟨o9,k9,rfl⟩:=Row.len hM.aA;obtain ⟨g0,h0,rfl⟩:=Row.len hK.types;obtain ⟨g1,h1,rfl⟩:=Row.len hK.imports;obtain ⟨g2,h2,rfl⟩:=Row.len hK.funcs;obtain ⟨g3,h3,rfl⟩:=Row.len hK.tables;obtain ⟨g4,h4,rfl⟩:=Row.len hK.aF;obtain ⟨g5,h5,rfl⟩:=Row.len hK.globals;obtain ⟨g6,h6,rfl⟩:=Row.len hK.exports;obtain ⟨g7,h7,rfl⟩:=Row.len hK.start;obtain ⟨g8,h8,rfl⟩:=Row.len hK.elems;obtain ⟨g9,h9,rfl⟩:=Row.len hK.aA;have HM:=aa hM;have HK:=aa hK;have aL:=aa (λ(w2:AG) (hb:Below w.heap.size w w2)=>Uq d _ _ _ _ _ _ _ _ _ _ _ _ _ _ _ _ _ _ _ _ m w2 (hM.on hb) (hK.on hb));clear hM hK;generalize hn0:m.types.length=n0 at *;generalize ju:m.imports.length=n1 at *;generalize fV:m.funcs.length=n2 at *;generalize lW:m.tables.length=n3 at *;generalize jQ:m.aF.length=n4 at *;generalize lK:m.globals.length=n5 at *;generalize lL:m.exports.length=n6 at *;generalize jd:m.start.length=n7 at *;generalize lh:m.elems.length=n8 at *;generalize lM:m.aA.length=n9 at *;go_enter func13,ntmps13;go_upto_region 1 with fail;obtain ⟨u1,hu1⟩:∃u1,u1=(w.alloc (.cells #[.slice o0 n0 k0,.slice o1 n1 k1,.slice o2 n2 k2,.slice o3 n3 k3,.slice o4 n4 k4,.slice o5 n5 k5,.slice o6 n6 k6,.slice o7 n7 k7,.slice o8 n8 k8,.slice o9 n9 k9] 32)).alloc (.cells #[.slice g0 n0 h0,.slice g1 n1 h1,.slice g2 n2 h2,.slice g3 n3 h3,.slice g4 n4 h4,.slice g5 n5 h5,.slice g6 n6 h6,.slice g7 n7 h7,.slice g8 n8 h8,.slice g9 n9 h9] 32):=⟨_,rfl⟩;have HP:Hid (gW u1 w.heap.size (.slice o0 n0 k0) (.slice o1 n1 k1) (.slice o2 n2 k2) (.slice o3 n3 k3) (.slice o4 n4 k4) (.slice o5 n5 k5) (.slice o6 n6 k6) (.slice o7 n7 k7) (.slice o8 n8 k8) (.slice o9 n9 k9)):=aa (by rw [hu1];exact (gW.new rfl).on (aQ _ _));have HQ:Hid (gW u1 (w.heap.size+1) (.slice g0 n0 h0) (.slice g1 n1 h1) (.slice g2 n2 h2) (.slice g3 n3 h3) (.slice g4 n4 h4) (.slice g5 n5 h5) (.slice g6 n6 h6) (.slice g7 n7 h7) (.slice g8 n8 h8) (.slice g9 n9 h9)):=aa (by rw [hu1];exact gW.new (by simp));have HU:Hid (Below w.heap.size w u1):=aa (by rw [hu1];exact dM (aQ _ _) (aQ _ _));have mW:=aa (HM.out.on HU.out);have mX:=aa (HK.out.on HU.out);rw [<- hu1];clear hu1;obtain ⟨p2,hp2⟩:∃p2,p2=w.heap.size+1:=⟨_,rfl⟩;rw [<- hp2] at HQ ⊢;clear hp2;generalize hp1:w.heap.size=p1 at HP ⊢;have iA:=aa (λw2 (hb:Below u1.heap.size u1 w2)=>aL.out w2 (dM HU.out hb));clear aL;have l0:=HM.out.types.1;have l1:=HM.out.imports.1;have l2:=HM.out.funcs.1;have l3:=HM.out.tables.1;have l4:=HM.out.aF.1;have l5:=HM.out.globals.1;have l6:=HM.out.exports.1;have l7:=HM.out.start.1;have l8:=HM.out.elems.1;have l9:=HM.out.aA.1;refine ai.adq 4 14 303 [.agg #[.slice o0 n0 k0,.slice o1 n1 k1,.slice o2 n2 k2,.slice o3 n3 k3,.slice o4 n4 k4,.slice o5 n5 k5,.slice o6 n6 k6,.slice o7 n7 k7,.slice o8 n8 k8,.slice o9 n9 k9],.agg #[.slice g0 n0 h0,.slice g1 n1 h1,.slice g2 n2 h2,.slice g3 n3 h3,.slice g4 n4 h4,.slice g5 n5 h5,.slice g6 n6 h6,.slice g7 n7 h7,.slice g8 n8 h8,.slice g9 n9 h9],.bool true,.bool false] (by simp) (by kernel_rfl) rfl ?hstep ?cO
 case hstep =>
  intro i o a w hi ho hF hB hd;have f2:a.tmps[2]?.getD undef=.pointer (some ⟨p1,0,none⟩):=ai.aB (hF.eval 2 (λi hi=>by show 14+i≠2;omega));have f3:a.tmps[3]?.getD undef=.pointer (some ⟨p2,0,none⟩):=ai.aB (hF.eval 3 (λi hi=>by show 14+i≠3;omega));have c0:=(HP.out.on hB).cell 0 _ rfl;have c1:=(HP.out.on hB).cell 1 _ rfl;have c2:=(HP.out.on hB).cell 2 _ rfl;have c3:=(HP.out.on hB).cell 3 _ rfl;have c4:=(HP.out.on hB).cell 4 _ rfl;have c5:=(HP.out.on hB).cell 5 _ rfl;have c6:=(HP.out.on hB).cell 6 _ rfl;have c7:=(HP.out.on hB).cell 7 _ rfl;have c8:=(HP.out.on hB).cell 8 _ rfl;have c9:=(HP.out.on hB).cell 9 _ rfl;have d0:=(HQ.out.on hB).cell 0 _ rfl;have d1:=(HQ.out.on hB).cell 1 _ rfl;have d2:=(HQ.out.on hB).cell 2 _ rfl;have d3:=(HQ.out.on hB).cell 3 _ rfl;have d4:=(HQ.out.on hB).cell 4 _ rfl;have d5:=(HQ.out.on hB).cell 5 _ rfl;have d6:=(HQ.out.on hB).cell 6 _ rfl;have d7:=(HQ.out.on hB).cell 7 _ rfl;have d8:=(HQ.out.on hB).cell 8 _ rfl;have d9:=(HQ.out.on hB).cell 9 _ rfl;have hd0:=hd 0;have hd1:=hd 1;have hd2:=hd 2;clear hd
  iterate 4 (rcases Nat.lt_succ_iff_lt_or_eq.1 hi with hi|rfl)
  exact absurd hi (Nat.not_lt_zero _)
  all_goals (
   simp only [gz,gU,gV,gN] at ho;subst ho;refine ai.Does.go rfl (ai.aO λK hK=>?_);simp at hd0 hd1 hd2;go_simp
   first|exact hK _ _ ⟨_,rfl,AC _ _,rfl⟩|(refine (iA.out w hB).mono ?_;rintro e w' ⟨rfl,hw⟩;exact hK _ _ ⟨_,rfl,hw,rfl⟩))
 case cO =>
  intro a w2 hF hB hG;have gl:a.eval (.tmp 17)=.bool false:=hG 3 (by omega);have aS:=aa hB;rw [BJ (by simp)];refine wpList_nil ?_;obtain ⟨xl,hxl,rfl,hev⟩:=hF.lit (by simp);rw [hev 3 (by omega)] at gl;obtain ⟨x0,x1,x2,x3,rfl⟩:=adV hxl;obtain rfl:x3=.bool false:=gl;clear hev hxl hF hG hB iA;simp only [ja,jb,iw,gP,iy,fN];go_wp2_with fail;go_loopw [5] (λi wr=>∃j:Nat,j<=n0/\i=.int .i64 j/\Hid (Below u1.heap.size u1 wr)) (λi _=>n0-(intOf i).toNat)
  case atStart=>exact ⟨0,by omega,rfl,aS⟩
  case round =>
   clear aS;obtain ⟨j,hj,rfl,aS⟩:=hrel;have kp:=(HP.out.on aS.out).cell 0 _ rfl;by_cases hgo:j<n0
   ·obtain ⟨b1,aY,kG,hv1,hx1⟩:=Row.some mW.out.types (by omega);injection hv1 with dX e11 e12;subst dX;clear e11 e12;obtain ⟨b2,dn,cap2,hv2,hx2⟩:=Row.some mX.out.types (by omega);injection hv2 with lq mN mO;subst lq;clear mN mO;obtain ⟨x,hxk⟩:∃x,m.types[j]?=some x:=⟨_,bG (by omega)⟩;have HX:=aa ((hx1 j x hxk).on aS.out);have HY:=aa ((hx2 j x hxk).on aS.out);clear hx1 hx2 hxk mW mX HM HK;obtain ⟨⟨v1,iY,a1⟩,⟨v2,jP,a2⟩⟩:=HX.out;obtain ⟨q1,z1,rfl⟩:=Row.len a1;have LB:=aa a1;clear a1;obtain ⟨q2,z2,rfl⟩:=Row.len a2;have LC:=aa a2;clear a2;obtain ⟨⟨v1,mr,a1⟩,⟨v2,mU,a2⟩⟩:=HY.out;obtain ⟨r1,t1,rfl⟩:=Row.len a1;have LD:=aa a1;clear a1;obtain ⟨r2,t2,rfl⟩:=Row.len a2;have LG:=aa a2;clear a2;generalize hy1:x.params.length=y1 at *;generalize hy2:x.results.length=y2 at *;go_upto_region 6 with fail;refine ai.yA 30 25 303 [.pointer (some ⟨p1,0,none⟩),.slice (some ⟨b1,aY,none⟩) n0 k0,.int .i64 j,.pointer (some ⟨b1,aY+j*2,none⟩),.pointer (some ⟨b1,aY+j*2,none⟩),.slice q1 y1 z1,.pointer (some ⟨p2,0,none⟩),.slice (some ⟨b2,dn,none⟩) n0 h0,.int .i64 j,.pointer (some ⟨b2,dn+j*2,none⟩),.pointer (some ⟨b2,dn+j*2,none⟩),.slice r1 y1 t1,.bool true,.bool false,.bool false,.pointer (some ⟨p1,0,none⟩),.slice (some ⟨b1,aY,none⟩) n0 k0,.int .i64 j,.pointer (some ⟨b1,aY+j*2,none⟩),.pointer (some ⟨b1,aY+j*2+1,none⟩),.slice q2 y2 z2,.pointer (some ⟨p2,0,none⟩),.slice (some ⟨b2,dn,none⟩) n0 h0,.int .i64 j,.pointer (some ⟨b2,dn+j*2,none⟩),.pointer (some ⟨b2,dn+j*2+1,none⟩),.slice r2 y2 t2,.bool true,.bool false,.bool false] (by kernel_rfl) (by kernel_rfl) (by kernel_rfl) rfl ?hstep ?hend
    case hstep =>
     intro i o a w hi ho hF hB hd;have zI:=(HP.out.on (aS.out.trans (hB.mono aS.out.size))).cell 0 _ rfl;have yl:=(HQ.out.on (aS.out.trans (hB.mono aS.out.size))).cell 0 _ rfl;have zJ:=ak hB iY;have zK:=ak hB jP;have zL:=ak hB mr;have zM:=ak hB mU;have f2:a.tmps[2]?.getD undef=.pointer (some ⟨p1,0,none⟩):=ai.aB (hF.eval 2 (λi hi=>by show 25+i≠2;omega));have f3:a.tmps[3]?.getD undef=.pointer (some ⟨p2,0,none⟩):=ai.aB (hF.eval 3 (λi hi=>by show 25+i≠3;omega));have f5:a.tmps[5]?.getD undef=.int .i64 j:=ai.aB (hF.eval 5 (λi hi=>by show 25+i≠5;omega))
     iterate 30 (rcases Nat.lt_succ_iff_lt_or_eq.1 hi with hi|rfl)
     exact absurd hi (Nat.not_lt_zero _)
     all_goals (
      simp only [gz,gU,gV,gN] at ho;subst ho
      first
      | refine ai.Does.go rfl (ai.aO λK hK=>?_)
      | refine ai.wI rfl rfl rfl rfl (hd _ (by decide)) (ai.aO λK hK=>?_)
      simp [ai.deps,Region.binds] at hd;go_simp
      first|exact hK _ _ ⟨_,rfl,AC _ _,rfl⟩|(have h9:=(BI _ _ _ _ w (LB.out.on hB) (LD.out.on hB));with_reducible refine h9.mono ?_;rintro e w' ⟨rfl,hw⟩;exact hK _ _ ⟨_,rfl,au.C9 hw,by simp [ai.qJ]⟩)|(have h9:=(BI _ _ _ _ w (LC.out.on hB) (LG.out.on hB));with_reducible refine h9.mono ?_;rintro e w' ⟨rfl,hw⟩;exact hK _ _ ⟨_,rfl,au.C9 hw,by simp [ai.qJ]⟩))
    case hend =>
     intro a w2 hF hB hG;have gl:a.eval (.tmp 54)=.bool false:=hG 29 (by omega);have HW2:=aa (aS.out.trans (hB.mono aS.out.size));obtain ⟨xl,hxl,rfl,hev⟩:=hF.lit (by simp);rw [hev 29 (by omega)] at gl;obtain ⟨x0,x1,x2,x3,x4,x5,x6,x7,x8,x9,cF,gD,gF,gG,gH,gI,gJ,gK,gm,jF,lC,lD,lF,lG,lH,nK,nL,nM,mP,qh,rfl⟩:=SJ hxl;obtain rfl:qh=.bool false:=gl;clear hev hxl hF hG hB;simp only [ja,jb,iw,gP,iy,fN];go_wp2;go_roundw
     case rel=>exact ⟨j+1,by omega,by go_num,HW2⟩
     case measure=>simp [intOf];omega
   obtain rfl:n0=j:=by omega
   go_wp2_with fail;go_loopw [6] (λi wr=>∃j:Nat,j<=n1/\i=.int .i64 j/\Hid (Below u1.heap.size u1 wr)) (λi _=>n1-(intOf i).toNat)
   case atStart=>exact ⟨0,by omega,rfl,aS⟩
   case round =>
    clear aS;obtain ⟨j,hj,rfl,aS⟩:=hrel;have kp:=(HP.out.on aS.out).cell 1 _ rfl;by_cases hgo:j<n1
    ·obtain ⟨b1,aY,kG,hv1,hx1⟩:=Row.some mW.out.imports (by omega);injection hv1 with dX e11 e12;subst dX;clear e11 e12;obtain ⟨b2,dn,cap2,hv2,hx2⟩:=Row.some mX.out.imports (by omega);injection hv2 with lq mN mO;subst lq;clear mN mO;obtain ⟨x,hxk⟩:∃x,m.imports[j]?=some x:=⟨_,bG (by omega)⟩;have HX:=aa ((hx1 j x hxk).on aS.out);have HY:=aa ((hx2 j x hxk).on aS.out);clear hx1 hx2 hxk mW mX HM HK;obtain ⟨iY,jP,mo⟩:=HX.out;obtain ⟨mr,mU,rD⟩:=HY.out;go_upto_region 11 with fail;refine ai.yA 11 62 303 [.pointer (some ⟨p1,1,none⟩),.slice (some ⟨b1,aY,none⟩) n1 k1,.int .i64 j,.pointer (some ⟨b1,aY+j*3,none⟩),.agg #[.string x.mod,.string x.name,.int .i64 x.type],.pointer (some ⟨p2,1,none⟩),.slice (some ⟨b2,dn,none⟩) n1 h1,.int .i64 j,.pointer (some ⟨b2,dn+j*3,none⟩),.agg #[.string x.mod,.string x.name,.int .i64 x.type],.bool false] (by kernel_rfl) (by kernel_rfl) (by kernel_rfl) rfl ?hstep ?hend
     case hstep =>
      intro i o a w hi ho hF hB hd;have zI:=(HP.out.on (aS.out.trans (hB.mono aS.out.size))).cell 1 _ rfl;have yl:=(HQ.out.on (aS.out.trans (hB.mono aS.out.size))).cell 1 _ rfl;have zJ:=ak hB iY;have zK:=ak hB jP;have BD:=ak hB mo;have zL:=ak hB mr;have zM:=ak hB mU;have BF:=ak hB rD;have f2:a.tmps[2]?.getD undef=.pointer (some ⟨p1,0,none⟩):=ai.aB (hF.eval 2 (λi hi=>by show 62+i≠2;omega));have f3:a.tmps[3]?.getD undef=.pointer (some ⟨p2,0,none⟩):=ai.aB (hF.eval 3 (λi hi=>by show 62+i≠3;omega));have f6:a.tmps[6]?.getD undef=.int .i64 j:=ai.aB (hF.eval 6 (λi hi=>by show 62+i≠6;omega))
      iterate 11 (rcases Nat.lt_succ_iff_lt_or_eq.1 hi with hi|rfl)
      exact absurd hi (Nat.not_lt_zero _)
      all_goals (
       simp only [gz,gU,gV,gN] at ho;subst ho
       first
       | refine ai.Does.go rfl (ai.aO λK hK=>?_)
       | refine ai.wI rfl rfl rfl rfl (hd _ (by decide)) (ai.aO λK hK=>?_)
       simp [ai.deps,Region.binds] at hd;go_simp
       first|exact hK _ _ ⟨_,rfl,AC _ _,rfl⟩)
     case hend =>
      intro a w2 hF hB hG;have gl:a.eval (.tmp 72)=.bool false:=hG 10 (by omega);have HW2:=aa (aS.out.trans (hB.mono aS.out.size));obtain ⟨xl,hxl,rfl,hev⟩:=hF.lit (by simp);rw [hev 10 (by omega)] at gl;obtain ⟨x0,x1,x2,x3,x4,x5,x6,x7,x8,x9,cF,rfl⟩:=Hs hxl;obtain rfl:cF=.bool false:=gl;clear hev hxl hF hG hB;simp only [ja,jb,iw,gP,iy,fN];go_wp2;go_roundw
      case rel=>exact ⟨j+1,by omega,by go_num,HW2⟩
      case measure=>simp [intOf];omega
    obtain rfl:n1=j:=by omega
    go_wp2_with fail;go_loopw [7] (λi wr=>∃j:Nat,j<=n2/\i=.int .i64 j/\Hid (Below u1.heap.size u1 wr)) (λi _=>n2-(intOf i).toNat)
    case atStart=>exact ⟨0,by omega,rfl,aS⟩
    case round =>
     clear aS;obtain ⟨j,hj,rfl,aS⟩:=hrel;have kp:=(HP.out.on aS.out).cell 2 _ rfl;by_cases hgo:j<n2
     ·obtain ⟨b1,aY,kG,hv1,hx1⟩:=Row.some mW.out.funcs (by omega);injection hv1 with dX e11 e12;subst dX;clear e11 e12;obtain ⟨b2,dn,cap2,hv2,hx2⟩:=Row.some mX.out.funcs (by omega);injection hv2 with lq mN mO;subst lq;clear mN mO;obtain ⟨x,hxk⟩:∃x,m.funcs[j]?=some x:=⟨_,bG (by omega)⟩;have HX:=aa ((hx1 j x hxk).on aS.out);have HY:=aa ((hx2 j x hxk).on aS.out);clear hx1 hx2 hxk mW mX HM HK;obtain ⟨iY,⟨v1,jP,a1⟩,⟨v2,mo,a2⟩⟩:=HX.out;obtain ⟨q1,z1,rfl⟩:=Row.len a1;have LB:=aa a1;clear a1;obtain ⟨q2,z2,rfl⟩:=At.len d _ _ a2;have LC:=aa a2;clear a2;obtain ⟨mr,⟨v1,mU,a1⟩,⟨v2,rD,a2⟩⟩:=HY.out;obtain ⟨r1,t1,rfl⟩:=Row.len a1;have LD:=aa a1;clear a1;obtain ⟨r2,t2,rfl⟩:=At.len d _ _ a2;have LG:=aa a2;clear a2;generalize hy1:x.locals.length=y1 at *;generalize hy2:size d x.body=y2 at *;go_upto_region 16 with fail;refine ai.yA 45 80 303 [.pointer (some ⟨p1,2,none⟩),.slice (some ⟨b1,aY,none⟩) n2 k2,.int .i64 j,.pointer (some ⟨b1,aY+j*3,none⟩),.pointer (some ⟨b1,aY+j*3,none⟩),.int .i64 x.type,.pointer (some ⟨p2,2,none⟩),.slice (some ⟨b2,dn,none⟩) n2 h2,.int .i64 j,.pointer (some ⟨b2,dn+j*3,none⟩),.pointer (some ⟨b2,dn+j*3,none⟩),.int .i64 x.type,.bool false,.bool false,.pointer (some ⟨p1,2,none⟩),.slice (some ⟨b1,aY,none⟩) n2 k2,.int .i64 j,.pointer (some ⟨b1,aY+j*3,none⟩),.pointer (some ⟨b1,aY+j*3+1,none⟩),.slice q1 y1 z1,.pointer (some ⟨p2,2,none⟩),.slice (some ⟨b2,dn,none⟩) n2 h2,.int .i64 j,.pointer (some ⟨b2,dn+j*3,none⟩),.pointer (some ⟨b2,dn+j*3+1,none⟩),.slice r1 y1 t1,.bool true,.bool false,.bool false,.bool false,.pointer (some ⟨p1,2,none⟩),.slice (some ⟨b1,aY,none⟩) n2 k2,.int .i64 j,.pointer (some ⟨b1,aY+j*3,none⟩),.pointer (some ⟨b1,aY+j*3+2,none⟩),.slice q2 y2 z2,.pointer (some ⟨p2,2,none⟩),.slice (some ⟨b2,dn,none⟩) n2 h2,.int .i64 j,.pointer (some ⟨b2,dn+j*3,none⟩),.pointer (some ⟨b2,dn+j*3+2,none⟩),.slice r2 y2 t2,.bool true,.bool false,.bool false] (by kernel_rfl) (by kernel_rfl) (by kernel_rfl) rfl ?hstep ?hend
      case hstep =>
       intro i o a w hi ho hF hB hd;have zI:=(HP.out.on (aS.out.trans (hB.mono aS.out.size))).cell 2 _ rfl;have yl:=(HQ.out.on (aS.out.trans (hB.mono aS.out.size))).cell 2 _ rfl;have zJ:=ak hB iY;have zK:=ak hB jP;have BD:=ak hB mo;have zL:=ak hB mr;have zM:=ak hB mU;have BF:=ak hB rD;have f2:a.tmps[2]?.getD undef=.pointer (some ⟨p1,0,none⟩):=ai.aB (hF.eval 2 (λi hi=>by show 80+i≠2;omega));have f3:a.tmps[3]?.getD undef=.pointer (some ⟨p2,0,none⟩):=ai.aB (hF.eval 3 (λi hi=>by show 80+i≠3;omega));have f7:a.tmps[7]?.getD undef=.int .i64 j:=ai.aB (hF.eval 7 (λi hi=>by show 80+i≠7;omega))
       iterate 45 (rcases Nat.lt_succ_iff_lt_or_eq.1 hi with hi|rfl)
       exact absurd hi (Nat.not_lt_zero _)
       all_goals (
        simp only [gz,gU,gV,gN] at ho;subst ho
        first
        | refine ai.Does.go rfl (ai.aO λK hK=>?_)
        | refine ai.wI rfl rfl rfl rfl (hd _ (by decide)) (ai.aO λK hK=>?_)
        simp [ai.deps,Region.binds] at hd;go_simp
        first|exact hK _ _ ⟨_,rfl,AC _ _,rfl⟩|(have h9:=(BI _ _ _ _ w (LB.out.on hB) (LD.out.on hB));with_reducible refine h9.mono ?_;rintro e w' ⟨rfl,hw⟩;exact hK _ _ ⟨_,rfl,au.C9 hw,by simp [ai.qJ]⟩)|(have h9:=(Jh d _ _ _ _ w (At.on hB d _ _ LC.out) (At.on hB d _ _ LG.out));with_reducible refine h9.mono ?_;rintro e w' ⟨rfl,hw⟩;exact hK _ _ ⟨_,rfl,hw,by simp [ai.qJ,FP]⟩))
      case hend =>
       intro a w2 hF hB hG;have gl:a.eval (.tmp 124)=.bool false:=hG 44 (by omega);have HW2:=aa (aS.out.trans (hB.mono aS.out.size));obtain ⟨xl,hxl,rfl,hev⟩:=hF.lit (by simp);rw [hev 44 (by omega)] at gl;obtain ⟨x0,x1,x2,x3,x4,x5,x6,x7,x8,x9,cF,gD,gF,gG,gH,gI,gJ,gK,gm,jF,lC,lD,lF,lG,lH,nK,nL,nM,mP,qh,yD,yE,yF,yG,yH,yI,yJ,yK,yL,yM,yN,yO,yP,xA,Fs,rfl⟩:=adR hxl;obtain rfl:Fs=.bool false:=gl;clear hev hxl hF hG hB;simp only [ja,jb,iw,gP,iy,fN];go_wp2;go_roundw
       case rel=>exact ⟨j+1,by omega,by go_num,HW2⟩
       case measure=>simp [intOf];omega
     obtain rfl:n2=j:=by omega
     go_wp2_with fail;go_loopw [8] (λi wr=>∃j:Nat,j<=n3/\i=.int .i64 j/\Hid (Below u1.heap.size u1 wr)) (λi _=>n3-(intOf i).toNat)
     case atStart=>exact ⟨0,by omega,rfl,aS⟩
     case round =>
      clear aS;obtain ⟨j,hj,rfl,aS⟩:=hrel;have kp:=(HP.out.on aS.out).cell 3 _ rfl;by_cases hgo:j<n3
      ·obtain ⟨b1,aY,kG,hv1,hx1⟩:=Row.some mW.out.tables (by omega);injection hv1 with dX e11 e12;subst dX;clear e11 e12;obtain ⟨b2,dn,cap2,hv2,hx2⟩:=Row.some mX.out.tables (by omega);injection hv2 with lq mN mO;subst lq;clear mN mO;obtain ⟨x,hxk⟩:∃x,m.tables[j]?=some x:=⟨_,bG (by omega)⟩;have HX:=aa ((hx1 j x hxk).on aS.out);have HY:=aa ((hx2 j x hxk).on aS.out);clear hx1 hx2 hxk mW mX HM HK;obtain ⟨iY,jP,mo⟩:=HX.out;obtain ⟨mr,mU,rD⟩:=HY.out;go_upto_region 21 with fail;refine ai.yA 11 132 303 [.pointer (some ⟨p1,3,none⟩),.slice (some ⟨b1,aY,none⟩) n3 k3,.int .i64 j,.pointer (some ⟨b1,aY+j*3,none⟩),.agg #[.int .i64 x.min,.int .i64 x.max,.bool x.has],.pointer (some ⟨p2,3,none⟩),.slice (some ⟨b2,dn,none⟩) n3 h3,.int .i64 j,.pointer (some ⟨b2,dn+j*3,none⟩),.agg #[.int .i64 x.min,.int .i64 x.max,.bool x.has],.bool false] (by kernel_rfl) (by kernel_rfl) (by kernel_rfl) rfl ?hstep ?hend
       case hstep =>
        intro i o a w hi ho hF hB hd;have zI:=(HP.out.on (aS.out.trans (hB.mono aS.out.size))).cell 3 _ rfl;have yl:=(HQ.out.on (aS.out.trans (hB.mono aS.out.size))).cell 3 _ rfl;have zJ:=ak hB iY;have zK:=ak hB jP;have BD:=ak hB mo;have zL:=ak hB mr;have zM:=ak hB mU;have BF:=ak hB rD;have f2:a.tmps[2]?.getD undef=.pointer (some ⟨p1,0,none⟩):=ai.aB (hF.eval 2 (λi hi=>by show 132+i≠2;omega));have f3:a.tmps[3]?.getD undef=.pointer (some ⟨p2,0,none⟩):=ai.aB (hF.eval 3 (λi hi=>by show 132+i≠3;omega));have f8:a.tmps[8]?.getD undef=.int .i64 j:=ai.aB (hF.eval 8 (λi hi=>by show 132+i≠8;omega))
        iterate 11 (rcases Nat.lt_succ_iff_lt_or_eq.1 hi with hi|rfl)
        exact absurd hi (Nat.not_lt_zero _)
        all_goals (
         simp only [gz,gU,gV,gN] at ho;subst ho
         first
         | refine ai.Does.go rfl (ai.aO λK hK=>?_)
         | refine ai.wI rfl rfl rfl rfl (hd _ (by decide)) (ai.aO λK hK=>?_)
         simp [ai.deps,Region.binds] at hd;go_simp
         first|exact hK _ _ ⟨_,rfl,AC _ _,rfl⟩)
       case hend =>
        intro a w2 hF hB hG;have gl:a.eval (.tmp 142)=.bool false:=hG 10 (by omega);have HW2:=aa (aS.out.trans (hB.mono aS.out.size));obtain ⟨xl,hxl,rfl,hev⟩:=hF.lit (by simp);rw [hev 10 (by omega)] at gl;obtain ⟨x0,x1,x2,x3,x4,x5,x6,x7,x8,x9,cF,rfl⟩:=Hs hxl;obtain rfl:cF=.bool false:=gl;clear hev hxl hF hG hB;simp only [ja,jb,iw,gP,iy,fN];go_wp2;go_roundw
        case rel=>exact ⟨j+1,by omega,by go_num,HW2⟩
        case measure=>simp [intOf];omega
      obtain rfl:n3=j:=by omega
      go_wp2_with fail;go_loopw [9] (λi wr=>∃j:Nat,j<=n4/\i=.int .i64 j/\Hid (Below u1.heap.size u1 wr)) (λi _=>n4-(intOf i).toNat)
      case atStart=>exact ⟨0,by omega,rfl,aS⟩
      case round =>
       clear aS;obtain ⟨j,hj,rfl,aS⟩:=hrel;have kp:=(HP.out.on aS.out).cell 4 _ rfl;by_cases hgo:j<n4
       ·obtain ⟨b1,aY,kG,hv1,hx1⟩:=Row.some mW.out.aF (by omega);injection hv1 with dX e11 e12;subst dX;clear e11 e12;obtain ⟨b2,dn,cap2,hv2,hx2⟩:=Row.some mX.out.aF (by omega);injection hv2 with lq mN mO;subst lq;clear mN mO;obtain ⟨x,hxk⟩:∃x,m.aF[j]?=some x:=⟨_,bG (by omega)⟩;have HX:=aa ((hx1 j x hxk).on aS.out);have HY:=aa ((hx2 j x hxk).on aS.out);clear hx1 hx2 hxk mW mX HM HK;obtain ⟨iY,jP,mo⟩:=HX.out;obtain ⟨mr,mU,rD⟩:=HY.out;go_upto_region 26 with fail;refine ai.yA 11 150 303 [.pointer (some ⟨p1,4,none⟩),.slice (some ⟨b1,aY,none⟩) n4 k4,.int .i64 j,.pointer (some ⟨b1,aY+j*3,none⟩),.agg #[.int .i64 x.min,.int .i64 x.max,.bool x.has],.pointer (some ⟨p2,4,none⟩),.slice (some ⟨b2,dn,none⟩) n4 h4,.int .i64 j,.pointer (some ⟨b2,dn+j*3,none⟩),.agg #[.int .i64 x.min,.int .i64 x.max,.bool x.has],.bool false] (by kernel_rfl) (by kernel_rfl) (by kernel_rfl) rfl ?hstep ?hend
        case hstep =>
         intro i o a w hi ho hF hB hd;have zI:=(HP.out.on (aS.out.trans (hB.mono aS.out.size))).cell 4 _ rfl;have yl:=(HQ.out.on (aS.out.trans (hB.mono aS.out.size))).cell 4 _ rfl;have zJ:=ak hB iY;have zK:=ak hB jP;have BD:=ak hB mo;have zL:=ak hB mr;have zM:=ak hB mU;have BF:=ak hB rD;have f2:a.tmps[2]?.getD undef=.pointer (some ⟨p1,0,none⟩):=ai.aB (hF.eval 2 (λi hi=>by show 150+i≠2;omega));have f3:a.tmps[3]?.getD undef=.pointer (some ⟨p2,0,none⟩):=ai.aB (hF.eval 3 (λi hi=>by show 150+i≠3;omega));have f9:a.tmps[9]?.getD undef=.int .i64 j:=ai.aB (hF.eval 9 (λi hi=>by show 150+i≠9;omega))
         iterate 11 (rcases Nat.lt_succ_iff_lt_or_eq.1 hi with hi|rfl)
         exact absurd hi (Nat.not_lt_zero _)
         all_goals (
          simp only [gz,gU,gV,gN] at ho;subst ho
          first
          | refine ai.Does.go rfl (ai.aO λK hK=>?_)
          | refine ai.wI rfl rfl rfl rfl (hd _ (by decide)) (ai.aO λK hK=>?_)
          simp [ai.deps,Region.binds] at hd;go_simp
          first|exact hK _ _ ⟨_,rfl,AC _ _,rfl⟩)
        case hend =>
         intro a w2 hF hB hG;have gl:a.eval (.tmp 160)=.bool false:=hG 10 (by omega);have HW2:=aa (aS.out.trans (hB.mono aS.out.size));obtain ⟨xl,hxl,rfl,hev⟩:=hF.lit (by simp);rw [hev 10 (by omega)] at gl;obtain ⟨x0,x1,x2,x3,x4,x5,x6,x7,x8,x9,cF,rfl⟩:=Hs hxl;obtain rfl:cF=.bool false:=gl;clear hev hxl hF hG hB;simp only [ja,jb,iw,gP,iy,fN];go_wp2;go_roundw
         case rel=>exact ⟨j+1,by omega,by go_num,HW2⟩
         case measure=>simp [intOf];omega
       obtain rfl:n4=j:=by omega
       go_wp2_with fail;go_loopw [10] (λi wr=>∃j:Nat,j<=n5/\i=.int .i64 j/\Hid (Below u1.heap.size u1 wr)) (λi _=>n5-(intOf i).toNat)
       case atStart=>exact ⟨0,by omega,rfl,aS⟩
       case round =>
        clear aS;obtain ⟨j,hj,rfl,aS⟩:=hrel;have kp:=(HP.out.on aS.out).cell 5 _ rfl;by_cases hgo:j<n5
        ·obtain ⟨b1,aY,kG,hv1,hx1⟩:=Row.some mW.out.globals (by omega);injection hv1 with dX e11 e12;subst dX;clear e11 e12;obtain ⟨b2,dn,cap2,hv2,hx2⟩:=Row.some mX.out.globals (by omega);injection hv2 with lq mN mO;subst lq;clear mN mO;obtain ⟨x,hxk⟩:∃x,m.globals[j]?=some x:=⟨_,bG (by omega)⟩;have HX:=aa ((hx1 j x hxk).on aS.out);have HY:=aa ((hx2 j x hxk).on aS.out);clear hx1 hx2 hxk mW mX HM HK;obtain ⟨iY,jP,⟨mo,zN,zO,zP,⟨v4,zQ,a4⟩,⟨v5,Ft,a5⟩,⟨v6,cx8,a6⟩⟩⟩:=HX.out;obtain ⟨q4,z4,rfl⟩:=Row.len a4;have xB:=aa a4;clear a4;obtain ⟨q5,z5,rfl⟩:=At.len d _ _ a5;have uP:=aa a5;clear a5;obtain ⟨q6,z6,rfl⟩:=At.len d _ _ a6;have sM:=aa a6;clear a6;obtain ⟨mr,mU,⟨rD,Fu,Fv,Fw,⟨v4,Fx,a4⟩,⟨v5,Fy,a5⟩,⟨v6,cy8,a6⟩⟩⟩:=HY.out;obtain ⟨r4,t4,rfl⟩:=Row.len a4;have xC:=aa a4;clear a4;obtain ⟨r5,t5,rfl⟩:=At.len d _ _ a5;have uQ:=aa a5;clear a5;obtain ⟨r6,t6,rfl⟩:=At.len d _ _ a6;have sN:=aa a6;clear a6;generalize Ac:x.init.labels.length=y4 at *;generalize Ad:size d x.init.body=y5 at *;generalize Ae:size d x.init.els=y6 at *;go_upto_region 31 with fail;refine ai.yA 44 168 303 [.pointer (some ⟨p1,5,none⟩),.slice (some ⟨b1,aY,none⟩) n5 k5,.int .i64 j,.pointer (some ⟨b1,aY+j*9,none⟩),.pointer (some ⟨b1,aY+j*9,none⟩),.int .i64 x.type,.pointer (some ⟨p2,5,none⟩),.slice (some ⟨b2,dn,none⟩) n5 h5,.int .i64 j,.pointer (some ⟨b2,dn+j*9,none⟩),.pointer (some ⟨b2,dn+j*9,none⟩),.int .i64 x.type,.bool false,.bool false,.pointer (some ⟨p1,5,none⟩),.slice (some ⟨b1,aY,none⟩) n5 k5,.int .i64 j,.pointer (some ⟨b1,aY+j*9,none⟩),.pointer (some ⟨b1,aY+j*9+1,none⟩),.bool x.je,.pointer (some ⟨p2,5,none⟩),.slice (some ⟨b2,dn,none⟩) n5 h5,.int .i64 j,.pointer (some ⟨b2,dn+j*9,none⟩),.pointer (some ⟨b2,dn+j*9+1,none⟩),.bool x.je,.bool false,.bool false,.bool false,.pointer (some ⟨p1,5,none⟩),.slice (some ⟨b1,aY,none⟩) n5 k5,.int .i64 j,.pointer (some ⟨b1,aY+j*9,none⟩),.pointer (some ⟨b1,aY+j*9+2,none⟩),.agg #[.int .i64 x.init.op,.int .i64 x.init.a,.int .i64 x.init.b,.int .i64 x.init.n,.slice q4 y4 z4,.slice q5 y5 z5,.slice q6 y6 z6],.pointer (some ⟨p2,5,none⟩),.slice (some ⟨b2,dn,none⟩) n5 h5,.int .i64 j,.pointer (some ⟨b2,dn+j*9,none⟩),.pointer (some ⟨b2,dn+j*9+2,none⟩),.agg #[.int .i64 x.init.op,.int .i64 x.init.a,.int .i64 x.init.b,.int .i64 x.init.n,.slice r4 y4 t4,.slice r5 y5 t5,.slice r6 y6 t6],.bool true,.bool false,.bool false] (by kernel_rfl) (by kernel_rfl) (by kernel_rfl) rfl ?hstep ?hend
         case hstep =>
          intro i o a w hi ho hF hB hd;have zI:=(HP.out.on (aS.out.trans (hB.mono aS.out.size))).cell 5 _ rfl;have yl:=(HQ.out.on (aS.out.trans (hB.mono aS.out.size))).cell 5 _ rfl;have zJ:=ak hB iY;have zK:=ak hB jP;have BD:=ak hB mo;have SL:=ak hB zN;have SN:=ak hB zO;have SQ:=ak hB zP;have SR:=ak hB zQ;have SS:=ak hB Ft;have kx8:=ak hB cx8;have zL:=ak hB mr;have zM:=ak hB mU;have BF:=ak hB rD;have SU:=ak hB Fu;have SV:=ak hB Fv;have SW:=ak hB Fw;have SZ:=ak hB Fx;have S5:=ak hB Fy;have ky8:=ak hB cy8;have f2:a.tmps[2]?.getD undef=.pointer (some ⟨p1,0,none⟩):=ai.aB (hF.eval 2 (λi hi=>by show 168+i≠2;omega));have f3:a.tmps[3]?.getD undef=.pointer (some ⟨p2,0,none⟩):=ai.aB (hF.eval 3 (λi hi=>by show 168+i≠3;omega));have f10:a.tmps[10]?.getD undef=.int .i64 j:=ai.aB (hF.eval 10 (λi hi=>by show 168+i≠10;omega))
          iterate 44 (rcases Nat.lt_succ_iff_lt_or_eq.1 hi with hi|rfl)
          exact absurd hi (Nat.not_lt_zero _)
          all_goals (
           simp only [gz,gU,gV,gN] at ho;subst ho
           first
           | refine ai.Does.go rfl (ai.aO λK hK=>?_)
           | refine ai.wI rfl rfl rfl rfl (hd _ (by decide)) (ai.aO λK hK=>?_)
           simp [ai.deps,Region.binds] at hd;go_simp
           first|exact hK _ _ ⟨_,rfl,AC _ _,rfl⟩|(have h9:=(Ji d _ _ _ _ _ _ _ _ _ _ _ _ _ _ _ _ _ _ _ _ w (xB.out.on hB) (At.on hB d _ _ uP.out) (At.on hB d _ _ sM.out) (xC.out.on hB) (At.on hB d _ _ uQ.out) (At.on hB d _ _ sN.out));with_reducible refine h9.mono ?_;rintro e w' ⟨rfl,hw⟩;exact hK _ _ ⟨_,rfl,hw,by simp [ai.qJ,IA]⟩))
         case hend =>
          intro a w2 hF hB hG;have gl:a.eval (.tmp 211)=.bool false:=hG 43 (by omega);have HW2:=aa (aS.out.trans (hB.mono aS.out.size));obtain ⟨xl,hxl,rfl,hev⟩:=hF.lit (by simp);rw [hev 43 (by omega)] at gl;obtain ⟨x0,x1,x2,x3,x4,x5,x6,x7,x8,x9,cF,gD,gF,gG,gH,gI,gJ,gK,gm,jF,lC,lD,lF,lG,lH,nK,nL,nM,mP,qh,yD,yE,yF,yG,yH,yI,yJ,yK,yL,yM,yN,yO,yP,xA,rfl⟩:=adT hxl;obtain rfl:xA=.bool false:=gl;clear hev hxl hF hG hB;simp only [ja,jb,iw,gP,iy,fN];go_wp2;go_roundw
          case rel=>exact ⟨j+1,by omega,by go_num,HW2⟩
          case measure=>simp [intOf];omega
        obtain rfl:n5=j:=by omega
        go_wp2_with fail;go_loopw [11] (λi wr=>∃j:Nat,j<=n6/\i=.int .i64 j/\Hid (Below u1.heap.size u1 wr)) (λi _=>n6-(intOf i).toNat)
        case atStart=>exact ⟨0,by omega,rfl,aS⟩
        case round =>
         clear aS;obtain ⟨j,hj,rfl,aS⟩:=hrel;have kp:=(HP.out.on aS.out).cell 6 _ rfl;by_cases hgo:j<n6
         ·obtain ⟨b1,aY,kG,hv1,hx1⟩:=Row.some mW.out.exports (by omega);injection hv1 with dX e11 e12;subst dX;clear e11 e12;obtain ⟨b2,dn,cap2,hv2,hx2⟩:=Row.some mX.out.exports (by omega);injection hv2 with lq mN mO;subst lq;clear mN mO;obtain ⟨x,hxk⟩:∃x,m.exports[j]?=some x:=⟨_,bG (by omega)⟩;have HX:=aa ((hx1 j x hxk).on aS.out);have HY:=aa ((hx2 j x hxk).on aS.out);clear hx1 hx2 hxk mW mX HM HK;obtain ⟨iY,jP,mo⟩:=HX.out;obtain ⟨mr,mU,rD⟩:=HY.out;go_upto_region 36 with fail;refine ai.yA 11 219 303 [.pointer (some ⟨p1,6,none⟩),.slice (some ⟨b1,aY,none⟩) n6 k6,.int .i64 j,.pointer (some ⟨b1,aY+j*3,none⟩),.agg #[.string x.name,.int .i64 x.kind,.int .i64 x.index],.pointer (some ⟨p2,6,none⟩),.slice (some ⟨b2,dn,none⟩) n6 h6,.int .i64 j,.pointer (some ⟨b2,dn+j*3,none⟩),.agg #[.string x.name,.int .i64 x.kind,.int .i64 x.index],.bool false] (by kernel_rfl) (by kernel_rfl) (by kernel_rfl) rfl ?hstep ?hend
          case hstep =>
           intro i o a w hi ho hF hB hd;have zI:=(HP.out.on (aS.out.trans (hB.mono aS.out.size))).cell 6 _ rfl;have yl:=(HQ.out.on (aS.out.trans (hB.mono aS.out.size))).cell 6 _ rfl;have zJ:=ak hB iY;have zK:=ak hB jP;have BD:=ak hB mo;have zL:=ak hB mr;have zM:=ak hB mU;have BF:=ak hB rD;have f2:a.tmps[2]?.getD undef=.pointer (some ⟨p1,0,none⟩):=ai.aB (hF.eval 2 (λi hi=>by show 219+i≠2;omega));have f3:a.tmps[3]?.getD undef=.pointer (some ⟨p2,0,none⟩):=ai.aB (hF.eval 3 (λi hi=>by show 219+i≠3;omega));have f11:a.tmps[11]?.getD undef=.int .i64 j:=ai.aB (hF.eval 11 (λi hi=>by show 219+i≠11;omega))
           iterate 11 (rcases Nat.lt_succ_iff_lt_or_eq.1 hi with hi|rfl)
           exact absurd hi (Nat.not_lt_zero _)
           all_goals (
            simp only [gz,gU,gV,gN] at ho;subst ho
            first
            | refine ai.Does.go rfl (ai.aO λK hK=>?_)
            | refine ai.wI rfl rfl rfl rfl (hd _ (by decide)) (ai.aO λK hK=>?_)
            simp [ai.deps,Region.binds] at hd;go_simp
            first|exact hK _ _ ⟨_,rfl,AC _ _,rfl⟩)
          case hend =>
           intro a w2 hF hB hG;have gl:a.eval (.tmp 229)=.bool false:=hG 10 (by omega);have HW2:=aa (aS.out.trans (hB.mono aS.out.size));obtain ⟨xl,hxl,rfl,hev⟩:=hF.lit (by simp);rw [hev 10 (by omega)] at gl;obtain ⟨x0,x1,x2,x3,x4,x5,x6,x7,x8,x9,cF,rfl⟩:=Hs hxl;obtain rfl:cF=.bool false:=gl;clear hev hxl hF hG hB;simp only [ja,jb,iw,gP,iy,fN];go_wp2;go_roundw
           case rel=>exact ⟨j+1,by omega,by go_num,HW2⟩
           case measure=>simp [intOf];omega
         obtain rfl:n6=j:=by omega
         go_wp2_with fail;go_loopw [12] (λi wr=>∃j:Nat,j<=n8/\i=.int .i64 j/\Hid (Below u1.heap.size u1 wr)) (λi _=>n8-(intOf i).toNat)
         case atStart=>exact ⟨0,by omega,rfl,aS⟩
         case round =>
          clear aS;obtain ⟨j,hj,rfl,aS⟩:=hrel;have kp:=(HP.out.on aS.out).cell 8 _ rfl;by_cases hgo:j<n8
          ·obtain ⟨b1,aY,kG,hv1,hx1⟩:=Row.some mW.out.elems (by omega);injection hv1 with dX e11 e12;subst dX;clear e11 e12;obtain ⟨b2,dn,cap2,hv2,hx2⟩:=Row.some mX.out.elems (by omega);injection hv2 with lq mN mO;subst lq;clear mN mO;obtain ⟨x,hxk⟩:∃x,m.elems[j]?=some x:=⟨_,bG (by omega)⟩;have HX:=aa ((hx1 j x hxk).on aS.out);have HY:=aa ((hx2 j x hxk).on aS.out);clear hx1 hx2 hxk mW mX HM HK;obtain ⟨⟨iY,jP,mo,zN,⟨v4,zO,a4⟩,⟨v5,zP,a5⟩,⟨v6,zQ,a6⟩⟩,⟨v7,Ft,a7⟩⟩:=HX.out;obtain ⟨q4,z4,rfl⟩:=Row.len a4;have xB:=aa a4;clear a4;obtain ⟨q5,z5,rfl⟩:=At.len d _ _ a5;have uP:=aa a5;clear a5;obtain ⟨q6,z6,rfl⟩:=At.len d _ _ a6;have sM:=aa a6;clear a6;obtain ⟨q7,z7,rfl⟩:=Row.len a7;have AX7:=aa a7;clear a7;obtain ⟨⟨mr,mU,rD,Fu,⟨v4,Fv,a4⟩,⟨v5,Fw,a5⟩,⟨v6,Fx,a6⟩⟩,⟨v7,Fy,a7⟩⟩:=HY.out;obtain ⟨r4,t4,rfl⟩:=Row.len a4;have xC:=aa a4;clear a4;obtain ⟨r5,t5,rfl⟩:=At.len d _ _ a5;have uQ:=aa a5;clear a5;obtain ⟨r6,t6,rfl⟩:=At.len d _ _ a6;have sN:=aa a6;clear a6;obtain ⟨r7,t7,rfl⟩:=Row.len a7;have AY7:=aa a7;clear a7;generalize Ac:x.offset.labels.length=y4 at *;generalize Ad:size d x.offset.body=y5 at *;generalize Ae:size d x.offset.els=y6 at *;generalize hy7:x.funcs.length=y7 at *;go_upto_region 41 with fail;refine ai.yA 30 237 303 [.pointer (some ⟨p1,8,none⟩),.slice (some ⟨b1,aY,none⟩) n8 k8,.int .i64 j,.pointer (some ⟨b1,aY+j*8,none⟩),.pointer (some ⟨b1,aY+j*8,none⟩),.agg #[.int .i64 x.offset.op,.int .i64 x.offset.a,.int .i64 x.offset.b,.int .i64 x.offset.n,.slice q4 y4 z4,.slice q5 y5 z5,.slice q6 y6 z6],.pointer (some ⟨p2,8,none⟩),.slice (some ⟨b2,dn,none⟩) n8 h8,.int .i64 j,.pointer (some ⟨b2,dn+j*8,none⟩),.pointer (some ⟨b2,dn+j*8,none⟩),.agg #[.int .i64 x.offset.op,.int .i64 x.offset.a,.int .i64 x.offset.b,.int .i64 x.offset.n,.slice r4 y4 t4,.slice r5 y5 t5,.slice r6 y6 t6],.bool true,.bool false,.bool false,.pointer (some ⟨p1,8,none⟩),.slice (some ⟨b1,aY,none⟩) n8 k8,.int .i64 j,.pointer (some ⟨b1,aY+j*8,none⟩),.pointer (some ⟨b1,aY+j*8+7,none⟩),.slice q7 y7 z7,.pointer (some ⟨p2,8,none⟩),.slice (some ⟨b2,dn,none⟩) n8 h8,.int .i64 j,.pointer (some ⟨b2,dn+j*8,none⟩),.pointer (some ⟨b2,dn+j*8+7,none⟩),.slice r7 y7 t7,.bool true,.bool false,.bool false] (by kernel_rfl) (by kernel_rfl) (by kernel_rfl) rfl ?hstep ?hend
           case hstep =>
            intro i o a w hi ho hF hB hd;have zI:=(HP.out.on (aS.out.trans (hB.mono aS.out.size))).cell 8 _ rfl;have yl:=(HQ.out.on (aS.out.trans (hB.mono aS.out.size))).cell 8 _ rfl;have zJ:=ak hB iY;have zK:=ak hB jP;have BD:=ak hB mo;have SL:=ak hB zN;have SN:=ak hB zO;have SQ:=ak hB zP;have SR:=ak hB zQ;have SS:=ak hB Ft;have zL:=ak hB mr;have zM:=ak hB mU;have BF:=ak hB rD;have SU:=ak hB Fu;have SV:=ak hB Fv;have SW:=ak hB Fw;have SZ:=ak hB Fx;have S5:=ak hB Fy;have f2:a.tmps[2]?.getD undef=.pointer (some ⟨p1,0,none⟩):=ai.aB (hF.eval 2 (λi hi=>by show 237+i≠2;omega));have f3:a.tmps[3]?.getD undef=.pointer (some ⟨p2,0,none⟩):=ai.aB (hF.eval 3 (λi hi=>by show 237+i≠3;omega));have f12:a.tmps[12]?.getD undef=.int .i64 j:=ai.aB (hF.eval 12 (λi hi=>by show 237+i≠12;omega))
            iterate 30 (rcases Nat.lt_succ_iff_lt_or_eq.1 hi with hi|rfl)
            exact absurd hi (Nat.not_lt_zero _)
            all_goals (
             simp only [gz,gU,gV,gN] at ho;subst ho
             first
             | refine ai.Does.go rfl (ai.aO λK hK=>?_)
             | refine ai.wI rfl rfl rfl rfl (hd _ (by decide)) (ai.aO λK hK=>?_)
             simp [ai.deps,Region.binds] at hd;go_simp
             first|exact hK _ _ ⟨_,rfl,AC _ _,rfl⟩|(have h9:=(BI _ _ _ _ w (AX7.out.on hB) (AY7.out.on hB));with_reducible refine h9.mono ?_;rintro e w' ⟨rfl,hw⟩;exact hK _ _ ⟨_,rfl,au.C9 hw,by simp [ai.qJ]⟩)|(have h9:=(Ji d _ _ _ _ _ _ _ _ _ _ _ _ _ _ _ _ _ _ _ _ w (xB.out.on hB) (At.on hB d _ _ uP.out) (At.on hB d _ _ sM.out) (xC.out.on hB) (At.on hB d _ _ uQ.out) (At.on hB d _ _ sN.out));with_reducible refine h9.mono ?_;rintro e w' ⟨rfl,hw⟩;exact hK _ _ ⟨_,rfl,hw,by simp [ai.qJ,IA]⟩))
           case hend =>
            intro a w2 hF hB hG;have gl:a.eval (.tmp 266)=.bool false:=hG 29 (by omega);have HW2:=aa (aS.out.trans (hB.mono aS.out.size));obtain ⟨xl,hxl,rfl,hev⟩:=hF.lit (by simp);rw [hev 29 (by omega)] at gl;obtain ⟨x0,x1,x2,x3,x4,x5,x6,x7,x8,x9,cF,gD,gF,gG,gH,gI,gJ,gK,gm,jF,lC,lD,lF,lG,lH,nK,nL,nM,mP,qh,rfl⟩:=SJ hxl;obtain rfl:qh=.bool false:=gl;clear hev hxl hF hG hB;simp only [ja,jb,iw,gP,iy,fN];go_wp2;go_roundw
            case rel=>exact ⟨j+1,by omega,by go_num,HW2⟩
            case measure=>simp [intOf];omega
          obtain rfl:n8=j:=by omega
          go_wp2_with fail;go_loopw [13] (λi wr=>∃j:Nat,j<=n9/\i=.int .i64 j/\Hid (Below u1.heap.size u1 wr)) (λi _=>n9-(intOf i).toNat)
          case atStart=>exact ⟨0,by omega,rfl,aS⟩
          case round =>
           clear aS;obtain ⟨j,hj,rfl,aS⟩:=hrel;have kp:=(HP.out.on aS.out).cell 9 _ rfl;by_cases hgo:j<n9
           ·obtain ⟨b1,aY,kG,hv1,hx1⟩:=Row.some mW.out.aA (by omega);injection hv1 with dX e11 e12;subst dX;clear e11 e12;obtain ⟨b2,dn,cap2,hv2,hx2⟩:=Row.some mX.out.aA (by omega);injection hv2 with lq mN mO;subst lq;clear mN mO;obtain ⟨x,hxk⟩:∃x,m.aA[j]?=some x:=⟨_,bG (by omega)⟩;have HX:=aa ((hx1 j x hxk).on aS.out);have HY:=aa ((hx2 j x hxk).on aS.out);clear hx1 hx2 hxk mW mX HM HK;obtain ⟨⟨iY,jP,mo,zN,⟨v4,zO,a4⟩,⟨v5,zP,a5⟩,⟨v6,zQ,a6⟩⟩,Ft⟩:=HX.out;obtain ⟨q4,z4,rfl⟩:=Row.len a4;have xB:=aa a4;clear a4;obtain ⟨q5,z5,rfl⟩:=At.len d _ _ a5;have uP:=aa a5;clear a5;obtain ⟨q6,z6,rfl⟩:=At.len d _ _ a6;have sM:=aa a6;clear a6;obtain ⟨⟨mr,mU,rD,Fu,⟨v4,Fv,a4⟩,⟨v5,Fw,a5⟩,⟨v6,Fx,a6⟩⟩,Fy⟩:=HY.out;obtain ⟨r4,t4,rfl⟩:=Row.len a4;have xC:=aa a4;clear a4;obtain ⟨r5,t5,rfl⟩:=At.len d _ _ a5;have uQ:=aa a5;clear a5;obtain ⟨r6,t6,rfl⟩:=At.len d _ _ a6;have sN:=aa a6;clear a6;generalize Ac:x.offset.labels.length=y4 at *;generalize Ad:size d x.offset.body=y5 at *;generalize Ae:size d x.offset.els=y6 at *;go_upto_region 46 with fail;refine ai.yA 29 274 303 [.pointer (some ⟨p1,9,none⟩),.slice (some ⟨b1,aY,none⟩) n9 k9,.int .i64 j,.pointer (some ⟨b1,aY+j*8,none⟩),.pointer (some ⟨b1,aY+j*8+7,none⟩),.string x.bytes,.pointer (some ⟨p2,9,none⟩),.slice (some ⟨b2,dn,none⟩) n9 h9,.int .i64 j,.pointer (some ⟨b2,dn+j*8,none⟩),.pointer (some ⟨b2,dn+j*8+7,none⟩),.string x.bytes,.bool false,.bool false,.pointer (some ⟨p1,9,none⟩),.slice (some ⟨b1,aY,none⟩) n9 k9,.int .i64 j,.pointer (some ⟨b1,aY+j*8,none⟩),.pointer (some ⟨b1,aY+j*8,none⟩),.agg #[.int .i64 x.offset.op,.int .i64 x.offset.a,.int .i64 x.offset.b,.int .i64 x.offset.n,.slice q4 y4 z4,.slice q5 y5 z5,.slice q6 y6 z6],.pointer (some ⟨p2,9,none⟩),.slice (some ⟨b2,dn,none⟩) n9 h9,.int .i64 j,.pointer (some ⟨b2,dn+j*8,none⟩),.pointer (some ⟨b2,dn+j*8,none⟩),.agg #[.int .i64 x.offset.op,.int .i64 x.offset.a,.int .i64 x.offset.b,.int .i64 x.offset.n,.slice r4 y4 t4,.slice r5 y5 t5,.slice r6 y6 t6],.bool true,.bool false,.bool false] (by kernel_rfl) (by kernel_rfl) (by kernel_rfl) rfl ?hstep ?hend
            case hstep =>
             intro i o a w hi ho hF hB hd;have zI:=(HP.out.on (aS.out.trans (hB.mono aS.out.size))).cell 9 _ rfl;have yl:=(HQ.out.on (aS.out.trans (hB.mono aS.out.size))).cell 9 _ rfl;have zJ:=ak hB iY;have zK:=ak hB jP;have BD:=ak hB mo;have SL:=ak hB zN;have SN:=ak hB zO;have SQ:=ak hB zP;have SR:=ak hB zQ;have SS:=ak hB Ft;have zL:=ak hB mr;have zM:=ak hB mU;have BF:=ak hB rD;have SU:=ak hB Fu;have SV:=ak hB Fv;have SW:=ak hB Fw;have SZ:=ak hB Fx;have S5:=ak hB Fy;have f2:a.tmps[2]?.getD undef=.pointer (some ⟨p1,0,none⟩):=ai.aB (hF.eval 2 (λi hi=>by show 274+i≠2;omega));have f3:a.tmps[3]?.getD undef=.pointer (some ⟨p2,0,none⟩):=ai.aB (hF.eval 3 (λi hi=>by show 274+i≠3;omega));have f13:a.tmps[13]?.getD undef=.int .i64 j:=ai.aB (hF.eval 13 (λi hi=>by show 274+i≠13;omega))
             iterate 29 (rcases Nat.lt_succ_iff_lt_or_eq.1 hi with hi|rfl)
             exact absurd hi (Nat.not_lt_zero _)
             all_goals (
              simp only [gz,gU,gV,gN] at ho;subst ho
              first
              | refine ai.Does.go rfl (ai.aO λK hK=>?_)
              | refine ai.wI rfl rfl rfl rfl (hd _ (by decide)) (ai.aO λK hK=>?_)
              simp [ai.deps,Region.binds] at hd;go_simp
              first|exact hK _ _ ⟨_,rfl,AC _ _,rfl⟩|(have h9:=(Ji d _ _ _ _ _ _ _ _ _ _ _ _ _ _ _ _ _ _ _ _ w (xB.out.on hB) (At.on hB d _ _ uP.out) (At.on hB d _ _ sM.out) (xC.out.on hB) (At.on hB d _ _ uQ.out) (At.on hB d _ _ sN.out));with_reducible refine h9.mono ?_;rintro e w' ⟨rfl,hw⟩;exact hK _ _ ⟨_,rfl,hw,by simp [ai.qJ,IA]⟩))
            case hend =>
             intro a w2 hF hB hG;have gl:a.eval (.tmp 302)=.bool false:=hG 28 (by omega);have HW2:=aa (aS.out.trans (hB.mono aS.out.size));obtain ⟨xl,hxl,rfl,hev⟩:=hF.lit (by simp);rw [hev 28 (by omega)] at gl;obtain ⟨x0,x1,x2,x3,x4,x5,x6,x7,x8,x9,cF,gD,gF,gG,gH,gI,gJ,gK,gm,jF,lC,lD,lF,lG,lH,nK,nL,nM,mP,rfl⟩:=adU hxl;obtain rfl:mP=.bool false:=gl;clear hev hxl hF hG hB;simp only [ja,jb,iw,gP,iy,fN];go_wp2;go_roundw
             case rel=>exact ⟨j+1,by omega,by go_num,HW2⟩
             case measure=>simp [intOf];omega
           obtain rfl:n9=j:=by omega
           go_wp2;go_ret;exact ⟨rfl,dM HU.out aS.out⟩
end Go.Proofs.YtcfifbgemfladaaGreatDoor
