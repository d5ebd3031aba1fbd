/- Texts that the claim needs. -/
import Derived.Test.YtegboefdolfdgaaGreatDoorQDM38
import Derived.Deep.CutRange
import Derived.Deep.RegionLaw
namespace Go.Proofs.YtegboefdolfdgaaGreatDoor
open Go.RowKit aA
set_option linter.unusedVariables false
set_option maxRecDepth 100000
set_option maxHeartbeats 32000000
namespace aA
theorem KD {x:List Value} (h:x.length=30):∃x0 x1 x2 x3 x4 x5 x6 x7 x8 x9 cn dK dM dN dO dP dQ dR dS fL ic ig ij ik il jK jL jM jg kQ,x = [x0,x1,x2,x3,x4,x5,x6,x7,x8,x9,cn,dK,dM,dN,dO,dP,dQ,dR,dS,fL,ic,ig,ij,ik,il,jK,jL,jM,jg,kQ]:=by
 match x,h with
 | [x0,x1,x2,x3,x4,x5,x6,x7,x8,x9,cn,dK,dM,dN,dO,dP,dQ,dR,dS,fL,ic,ig,ij,ik,il,jK,jL,jM,jg,kQ],_=>exact ⟨x0,x1,x2,x3,x4,x5,x6,x7,x8,x9,cn,dK,dM,dN,dO,dP,dQ,dR,dS,fL,ic,ig,ij,ik,il,jK,jL,jM,jg,kQ,rfl⟩
theorem BW {x:List Value} (h:x.length=11):∃x0 x1 x2 x3 x4 x5 x6 x7 x8 x9 cn,x = [x0,x1,x2,x3,x4,x5,x6,x7,x8,x9,cn]:=by
 match x,h with
 | [x0,x1,x2,x3,x4,x5,x6,x7,x8,x9,cn],_=>exact ⟨x0,x1,x2,x3,x4,x5,x6,x7,x8,x9,cn,rfl⟩
theorem KE {x:List Value} (h:x.length=25):∃x0 x1 x2 x3 x4 x5 x6 x7 x8 x9 cn dK dM dN dO dP dQ dR dS fL ic ig ij ik il,x = [x0,x1,x2,x3,x4,x5,x6,x7,x8,x9,cn,dK,dM,dN,dO,dP,dQ,dR,dS,fL,ic,ig,ij,ik,il]:=by
 match x,h with
 | [x0,x1,x2,x3,x4,x5,x6,x7,x8,x9,cn,dK,dM,dN,dO,dP,dQ,dR,dS,fL,ic,ig,ij,ik,il],_=>exact ⟨x0,x1,x2,x3,x4,x5,x6,x7,x8,x9,cn,dK,dM,dN,dO,dP,dQ,dR,dS,fL,ic,ig,ij,ik,il,rfl⟩
theorem Ub {x:List Value} (h:x.length=20):∃x0 x1 x2 x3 x4 x5 x6 x7 x8 x9 cn dK dM dN dO dP dQ dR dS fL,x = [x0,x1,x2,x3,x4,x5,x6,x7,x8,x9,cn,dK,dM,dN,dO,dP,dQ,dR,dS,fL]:=by
 match x,h with
 | [x0,x1,x2,x3,x4,x5,x6,x7,x8,x9,cn,dK,dM,dN,dO,dP,dQ,dR,dS,fL],_=>exact ⟨x0,x1,x2,x3,x4,x5,x6,x7,x8,x9,cn,dK,dM,dN,dO,dP,dQ,dR,dS,fL,rfl⟩
theorem Uc {x:List Value} (h:x.length=45):∃x0 x1 x2 x3 x4 x5 x6 x7 x8 x9 cn dK dM dN dO dP dQ dR dS fL ic ig ij ik il jK jL jM jg kQ rW rX rY rZ r9 si sj su sw sx sD sF sG qJ Am,x = [x0,x1,x2,x3,x4,x5,x6,x7,x8,x9,cn,dK,dM,dN,dO,dP,dQ,dR,dS,fL,ic,ig,ij,ik,il,jK,jL,jM,jg,kQ,rW,rX,rY,rZ,r9,si,sj,su,sw,sx,sD,sF,sG,qJ,Am]:=by
 obtain ⟨x0,x1,x2,x3,x4,x5,x6,x7,x8,x9,cn,dK,dM,dN,dO,dP,dQ,dR,dS,fL,ic,ig,ij,ik,il,h1⟩:=KE (x:=x.take 25) (by rw [List.length_take,h];rfl);obtain ⟨jK,jL,jM,jg,kQ,rW,rX,rY,rZ,r9,si,sj,su,sw,sx,sD,sF,sG,qJ,Am,h2⟩:=Ub (x:=x.drop 25) (by rw [List.length_drop,h]);exact ⟨x0,x1,x2,x3,x4,x5,x6,x7,x8,x9,cn,dK,dM,dN,dO,dP,dQ,dR,dS,fL,ic,ig,ij,ik,il,jK,jL,jM,jg,kQ,rW,rX,rY,rZ,r9,si,sj,su,sw,sx,sD,sF,sG,qJ,Am,by rw [<- List.take_append_drop 25 x,h1,h2];rfl⟩
theorem Ud {x:List Value} (h:x.length=19):∃x0 x1 x2 x3 x4 x5 x6 x7 x8 x9 cn dK dM dN dO dP dQ dR dS,x = [x0,x1,x2,x3,x4,x5,x6,x7,x8,x9,cn,dK,dM,dN,dO,dP,dQ,dR,dS]:=by
 match x,h with
 | [x0,x1,x2,x3,x4,x5,x6,x7,x8,x9,cn,dK,dM,dN,dO,dP,dQ,dR,dS],_=>exact ⟨x0,x1,x2,x3,x4,x5,x6,x7,x8,x9,cn,dK,dM,dN,dO,dP,dQ,dR,dS,rfl⟩
theorem Ue {x:List Value} (h:x.length=44):∃x0 x1 x2 x3 x4 x5 x6 x7 x8 x9 cn dK dM dN dO dP dQ dR dS fL ic ig ij ik il jK jL jM jg kQ rW rX rY rZ r9 si sj su sw sx sD sF sG qJ,x = [x0,x1,x2,x3,x4,x5,x6,x7,x8,x9,cn,dK,dM,dN,dO,dP,dQ,dR,dS,fL,ic,ig,ij,ik,il,jK,jL,jM,jg,kQ,rW,rX,rY,rZ,r9,si,sj,su,sw,sx,sD,sF,sG,qJ]:=by
 obtain ⟨x0,x1,x2,x3,x4,x5,x6,x7,x8,x9,cn,dK,dM,dN,dO,dP,dQ,dR,dS,fL,ic,ig,ij,ik,il,h1⟩:=KE (x:=x.take 25) (by rw [List.length_take,h];rfl);obtain ⟨jK,jL,jM,jg,kQ,rW,rX,rY,rZ,r9,si,sj,su,sw,sx,sD,sF,sG,qJ,h2⟩:=Ud (x:=x.drop 25) (by rw [List.length_drop,h]);exact ⟨x0,x1,x2,x3,x4,x5,x6,x7,x8,x9,cn,dK,dM,dN,dO,dP,dQ,dR,dS,fL,ic,ig,ij,ik,il,jK,jL,jM,jg,kQ,rW,rX,rY,rZ,r9,si,sj,su,sw,sx,sD,sF,sG,qJ,by rw [<- List.take_append_drop 25 x,h1,h2];rfl⟩
theorem Uf {x:List Value} (h:x.length=29):∃x0 x1 x2 x3 x4 x5 x6 x7 x8 x9 cn dK dM dN dO dP dQ dR dS fL ic ig ij ik il jK jL jM jg,x = [x0,x1,x2,x3,x4,x5,x6,x7,x8,x9,cn,dK,dM,dN,dO,dP,dQ,dR,dS,fL,ic,ig,ij,ik,il,jK,jL,jM,jg]:=by
 match x,h with
 | [x0,x1,x2,x3,x4,x5,x6,x7,x8,x9,cn,dK,dM,dN,dO,dP,dQ,dR,dS,fL,ic,ig,ij,ik,il,jK,jL,jM,jg],_=>exact ⟨x0,x1,x2,x3,x4,x5,x6,x7,x8,x9,cn,dK,dM,dN,dO,dP,dQ,dR,dS,fL,ic,ig,ij,ik,il,jK,jL,jM,jg,rfl⟩
theorem Ug {x:List Value} (h:x.length=4):∃x0 x1 x2 x3,x = [x0,x1,x2,x3]:=by
 match x,h with
 | [x0,x1,x2,x3],_=>exact ⟨x0,x1,x2,x3,rfl⟩
end aA
theorem S9 (d:Nat) (v0 v1 v2 v3 v4 v5 v6 v7 v8 v9 u0 u1 u2 u3 u4 u5 u6 u7 u8 u9:Value) (m:Mod d) (w:World) (hM:pX w d v0 v1 v2 v3 v4 v5 v6 v7 v8 v9 m) (hK:pX w d u0 u1 u2 u3 u4 u5 u6 u7 u8 u9 m):Calls Tryz.prog 8 #[.agg #[v0,v1,v2,v3,v4,v5,v6,v7,v8,v9],.agg #[u0,u1,u2,u3,u4,u5,u6,u7,u8,u9]] w (fun e w'=>e=.returned (.bool true)/\Below w.heap.size w w'):=by
 obtain ⟨o0,k0,rfl⟩:=Row.len hM.types;obtain ⟨o1,k1,rfl⟩:=Row.len hM.imports;obtain ⟨o2,k2,rfl⟩:=Row.len hM.funcs;obtain ⟨o3,k3,rfl⟩:=Row.len hM.tables;obtain ⟨o4,k4,rfl⟩:=Row.len hM.dU;obtain ⟨o5,k5,rfl⟩:=Row.len hM.globals;obtain ⟨o6,k6,rfl⟩:=Row.len hM.exports;obtain ⟨o7,k7,rfl⟩:=Row.len hM.start;obtain ⟨o8,k8,rfl⟩:=Row.len hM.elems;obtain ⟨o9,k9,rfl⟩:=Row.len hM.dV;obtain ⟨g0,h0,rfl⟩:=Row.len hK.types;obtain ⟨g1,h1,rfl⟩:=Row.len hK.imports;obtain ⟨g2,h2,rfl⟩:=Row.len hK.funcs;obtain ⟨g3,h3,rfl⟩:=Row.len hK.tables;obtain ⟨g4,h4,rfl⟩:=Row.len hK.dU;obtain ⟨g5,h5,rfl⟩:=Row.len hK.globals;obtain ⟨g6,h6,rfl⟩:=Row.len hK.exports;obtain ⟨g7,h7,rfl⟩:=Row.len hK.start;obtain ⟨g8,h8,rfl⟩:=Row.len hK.elems;obtain ⟨g9,h9,rfl⟩:=Row.len hK.dV;have HM:=aa hM;have HK:=aa hK;have ak:=aa (fun (w2:World) (hb:Below w.heap.size w w2)=>Lm d _ _ _ _ _ _ _ _ _ _ _ _ _ _ _ _ _ _ _ _ m w2 (hM.on hb) (hK.on hb));clear hM hK;generalize hn0:m.types.length=n0 at *;generalize pY:m.imports.length=n1 at *;generalize jP:m.funcs.length=n2 at *;generalize xz:m.tables.length=n3 at *;generalize uA:m.dU.length=n4 at *;generalize uC:m.globals.length=n5 at *;generalize xA:m.exports.length=n6 at *;generalize xB:m.start.length=n7 at *;generalize xC:m.elems.length=n8 at *;generalize xD:m.dV.length=n9 at *;go_enter Tryz.func8,Tryz.ntmps8;go_upto_region 1 with fail;obtain ⟨u1,hu1⟩:∃u1,u1=(w.alloc (.cells #[.slice o0 n0 k0,.slice o1 n1 k1,.slice o2 n2 k2,.slice o3 n3 k3,.slice o4 n4 k4,.slice o5 n5 k5,.slice o6 n6 k6,.slice o7 n7 k7,.slice o8 n8 k8,.slice o9 n9 k9] 33)).alloc (.cells #[.slice g0 n0 h0,.slice g1 n1 h1,.slice g2 n2 h2,.slice g3 n3 h3,.slice g4 n4 h4,.slice g5 n5 h5,.slice g6 n6 h6,.slice g7 n7 h7,.slice g8 n8 h8,.slice g9 n9 h9] 33):=⟨_,rfl⟩;have HP:Hid (fo u1 w.heap.size (.slice o0 n0 k0) (.slice o1 n1 k1) (.slice o2 n2 k2) (.slice o3 n3 k3) (.slice o4 n4 k4) (.slice o5 n5 k5) (.slice o6 n6 k6) (.slice o7 n7 k7) (.slice o8 n8 k8) (.slice o9 n9 k9)):=aa (by rw [hu1];exact (fo.new rfl).on (aD _ _));have HQ:Hid (fo u1 (w.heap.size+1) (.slice g0 n0 h0) (.slice g1 n1 h1) (.slice g2 n2 h2) (.slice g3 n3 h3) (.slice g4 n4 h4) (.slice g5 n5 h5) (.slice g6 n6 h6) (.slice g7 n7 h7) (.slice g8 n8 h8) (.slice g9 n9 h9)):=aa (by rw [hu1];exact fo.new (by simp));have HU:Hid (Below w.heap.size w u1):=aa (by rw [hu1];exact cu (aD _ _) (aD _ _));have ji:=aa (HM.out.on HU.out);have jk:=aa (HK.out.on HU.out);rw [<- hu1];clear hu1;obtain ⟨p2,hp2⟩:∃p2,p2=w.heap.size+1:=⟨_,rfl⟩;rw [<- hp2] at HQ ⊢;clear hp2;generalize hp1:w.heap.size=p1 at HP ⊢;have bY:=aa (fun w2 (hb:Below u1.heap.size u1 w2)=>ak.out w2 (cu HU.out hb));clear ak;have l0:=HM.out.types.1;have l1:=HM.out.imports.1;have l2:=HM.out.funcs.1;have l3:=HM.out.tables.1;have l4:=HM.out.dU.1;have l5:=HM.out.globals.1;have l6:=HM.out.exports.1;have l7:=HM.out.start.1;have l8:=HM.out.elems.1;have l9:=HM.out.dV.1;refine af.TM 4 14 303 [.agg #[.slice o0 n0 k0,.slice o1 n1 k1,.slice o2 n2 k2,.slice o3 n3 k3,.slice o4 n4 k4,.slice o5 n5 k5,.slice o6 n6 k6,.slice o7 n7 k7,.slice o8 n8 k8,.slice o9 n9 k9],.agg #[.slice g0 n0 h0,.slice g1 n1 h1,.slice g2 n2 h2,.slice g3 n3 h3,.slice g4 n4 h4,.slice g5 n5 h5,.slice g6 n6 h6,.slice g7 n7 h7,.slice g8 n8 h8,.slice g9 n9 h9],.bool true,.bool false] (by simp) (by kernel_rfl) rfl ?hstep ?fu
 case hstep =>
  intro i o a w hi ho hF hB hd;have f2:a.tmps[2]?.getD undef=.pointer (some ⟨p1,0,none⟩):=af.av (hF.eval 2 (fun i hi=>by show 14+i≠2;omega));have f3:a.tmps[3]?.getD undef=.pointer (some ⟨p2,0,none⟩):=af.av (hF.eval 3 (fun i hi=>by show 14+i≠3;omega));have c0:=(HP.out.on hB).cell 0 _ rfl;have c1:=(HP.out.on hB).cell 1 _ rfl;have c2:=(HP.out.on hB).cell 2 _ rfl;have c3:=(HP.out.on hB).cell 3 _ rfl;have c4:=(HP.out.on hB).cell 4 _ rfl;have c5:=(HP.out.on hB).cell 5 _ rfl;have c6:=(HP.out.on hB).cell 6 _ rfl;have c7:=(HP.out.on hB).cell 7 _ rfl;have c8:=(HP.out.on hB).cell 8 _ rfl;have c9:=(HP.out.on hB).cell 9 _ rfl;have d0:=(HQ.out.on hB).cell 0 _ rfl;have d1:=(HQ.out.on hB).cell 1 _ rfl;have d2:=(HQ.out.on hB).cell 2 _ rfl;have d3:=(HQ.out.on hB).cell 3 _ rfl;have d4:=(HQ.out.on hB).cell 4 _ rfl;have d5:=(HQ.out.on hB).cell 5 _ rfl;have d6:=(HQ.out.on hB).cell 6 _ rfl;have d7:=(HQ.out.on hB).cell 7 _ rfl;have d8:=(HQ.out.on hB).cell 8 _ rfl;have d9:=(HQ.out.on hB).cell 9 _ rfl;have hd0:=hd 0;have hd1:=hd 1;have hd2:=hd 2;clear hd
  iterate 4 (rcases Nat.lt_succ_iff_lt_or_eq.1 hi with hi|rfl)
  exact absurd hi (Nat.not_lt_zero _)
  all_goals (
   simp only [List.getElem?_toArray,List.getElem?_cons_succ,List.getElem?_cons_zero,Option.some.injEq] at ho;subst ho;refine af.Does.go rfl (af.aR fun K hK=>?_);simp at hd0 hd1 hd2;go_simp
   first|exact hK _ _ ⟨_,rfl,Below.refl _ _,rfl⟩|(refine (bY.out w hB).mono ?_;rintro e w' ⟨rfl,hw⟩;exact hK _ _ ⟨_,rfl,hw,rfl⟩))
 case fu =>
  intro a w2 hF hB hG;have gl:a.eval (.tmp 17)=.bool false:=hG 3 (by omega);have aK:=aa hB;rw [List.drop_eq_nil_of_le (by simp)];refine wpList_nil ?_;obtain ⟨xl,hxl,rfl,hev⟩:=hF.lit (by simp);rw [hev 3 (by omega)] at gl;obtain ⟨x0,x1,x2,x3,rfl⟩:=Ug hxl;obtain rfl:x3=.bool false:=gl;clear hev hxl hF hG hB bY;simp only [List.take_succ_cons,List.take_zero,List.drop_succ_cons,List.drop_zero,List.cons_append,List.nil_append];go_wp2_with fail;go_loopw [5] (fun i wr=>∃j:Nat,j<=n0/\i=.int .i64 j/\Hid (Below u1.heap.size u1 wr)) (fun i _=>n0-(intOf i).toNat)
  case atStart=>exact ⟨0,by omega,rfl,aK⟩
  case round =>
   clear aK;obtain ⟨j,hj,rfl,aK⟩:=hrel;have kp:=(HP.out.on aK.out).cell 0 _ rfl;by_cases hgo:j<n0
   ·obtain ⟨b1,bE,qI,hv1,hx1⟩:=Row.some ji.out.types (by omega);injection hv1 with jb e11 e12;subst jb;clear e11 e12;obtain ⟨b2,bF,cap2,hv2,hx2⟩:=Row.some jk.out.types (by omega);injection hv2 with jc jd je;subst jc;clear jd je;obtain ⟨x,hxk⟩:∃x,m.types[j]?=some x:=⟨_,List.getElem?_eq_getElem (by omega)⟩;have HX:=aa ((hx1 j x hxk).on aK.out);have HY:=aa ((hx2 j x hxk).on aK.out);clear hx1 hx2 hxk ji jk HM HK;obtain ⟨⟨v1,kR,a1⟩,⟨v2,kS,a2⟩⟩:=HX.out;obtain ⟨q1,z1,rfl⟩:=Row.len a1;have EL:=aa a1;clear a1;obtain ⟨q2,z2,rfl⟩:=Row.len a2;have EM:=aa a2;clear a2;obtain ⟨⟨v1,kU,a1⟩,⟨v2,kX,a2⟩⟩:=HY.out;obtain ⟨r1,t1,rfl⟩:=Row.len a1;have EN:=aa a1;clear a1;obtain ⟨r2,t2,rfl⟩:=Row.len a2;have EO:=aa a2;clear a2;generalize hy1:x.params.length=y1 at *;generalize hy2:x.results.length=y2 at *;go_upto_region 6 with fail;refine af.rV 30 25 303 [.pointer (some ⟨p1,0,none⟩),.slice (some ⟨b1,bE,none⟩) n0 k0,.int .i64 j,.pointer (some ⟨b1,bE+j*2,none⟩),.pointer (some ⟨b1,bE+j*2,none⟩),.slice q1 y1 z1,.pointer (some ⟨p2,0,none⟩),.slice (some ⟨b2,bF,none⟩) n0 h0,.int .i64 j,.pointer (some ⟨b2,bF+j*2,none⟩),.pointer (some ⟨b2,bF+j*2,none⟩),.slice r1 y1 t1,.bool true,.bool false,.bool false,.pointer (some ⟨p1,0,none⟩),.slice (some ⟨b1,bE,none⟩) n0 k0,.int .i64 j,.pointer (some ⟨b1,bE+j*2,none⟩),.pointer (some ⟨b1,bE+j*2+1,none⟩),.slice q2 y2 z2,.pointer (some ⟨p2,0,none⟩),.slice (some ⟨b2,bF,none⟩) n0 h0,.int .i64 j,.pointer (some ⟨b2,bF+j*2,none⟩),.pointer (some ⟨b2,bF+j*2+1,none⟩),.slice r2 y2 t2,.bool true,.bool false,.bool false] (by kernel_rfl) (by kernel_rfl) (by kernel_rfl) rfl ?hstep ?hend
    case hstep =>
     intro i o a w hi ho hF hB hd;have uh:=(HP.out.on (aK.out.trans (hB.mono aK.out.size))).cell 0 _ rfl;have ui:=(HQ.out.on (aK.out.trans (hB.mono aK.out.size))).cell 0 _ rfl;have uj:=aF hB kR;have uk:=aF hB kS;have um:=aF hB kU;have uo:=aF hB kX;have f2:a.tmps[2]?.getD undef=.pointer (some ⟨p1,0,none⟩):=af.av (hF.eval 2 (fun i hi=>by show 25+i≠2;omega));have f3:a.tmps[3]?.getD undef=.pointer (some ⟨p2,0,none⟩):=af.av (hF.eval 3 (fun i hi=>by show 25+i≠3;omega));have f5:a.tmps[5]?.getD undef=.int .i64 j:=af.av (hF.eval 5 (fun i hi=>by show 25+i≠5;omega))
     iterate 30 (rcases Nat.lt_succ_iff_lt_or_eq.1 hi with hi|rfl)
     exact absurd hi (Nat.not_lt_zero _)
     all_goals (
      simp only [List.getElem?_toArray,List.getElem?_cons_succ,List.getElem?_cons_zero,Option.some.injEq] at ho;subst ho
      first
      | refine af.Does.go rfl (af.aR fun K hK=>?_)
      | refine af.qa rfl rfl rfl rfl (hd _ (by decide)) (af.aR fun K hK=>?_)
      simp [af.deps,Region.binds] at hd;go_simp
      first|exact hK _ _ ⟨_,rfl,Below.refl _ _,rfl⟩|(have h9:=(vU _ _ _ _ w (EL.out.on hB) (EN.out.on hB));with_reducible refine h9.mono ?_;rintro e w' ⟨rfl,hw⟩;exact hK _ _ ⟨_,rfl,aA.xy hw,by simp [af.lJ]⟩)|(have h9:=(vU _ _ _ _ w (EM.out.on hB) (EO.out.on hB));with_reducible refine h9.mono ?_;rintro e w' ⟨rfl,hw⟩;exact hK _ _ ⟨_,rfl,aA.xy hw,by simp [af.lJ]⟩))
    case hend =>
     intro a w2 hF hB hG;have gl:a.eval (.tmp 54)=.bool false:=hG 29 (by omega);have HW2:=aa (aK.out.trans (hB.mono aK.out.size));obtain ⟨xl,hxl,rfl,hev⟩:=hF.lit (by simp);rw [hev 29 (by omega)] at gl;obtain ⟨x0,x1,x2,x3,x4,x5,x6,x7,x8,x9,cn,dK,dM,dN,dO,dP,dQ,dR,dS,fL,ic,ig,ij,ik,il,jK,jL,jM,jg,kQ,rfl⟩:=KD hxl;obtain rfl:kQ=.bool false:=gl;clear hev hxl hF hG hB;simp only [List.take_succ_cons,List.take_zero,List.drop_succ_cons,List.drop_zero,List.cons_append,List.nil_append];go_wp2;go_roundw
     case rel=>exact ⟨j+1,by omega,by go_num,HW2⟩
     case measure=>simp [intOf];omega
   ·obtain rfl:n0=j:=by omega
    go_wp2_with fail;go_loopw [6] (fun i wr=>∃j:Nat,j<=n1/\i=.int .i64 j/\Hid (Below u1.heap.size u1 wr)) (fun i _=>n1-(intOf i).toNat)
    case atStart=>exact ⟨0,by omega,rfl,aK⟩
    case round =>
     clear aK;obtain ⟨j,hj,rfl,aK⟩:=hrel;have kp:=(HP.out.on aK.out).cell 1 _ rfl;by_cases hgo:j<n1
     ·obtain ⟨b1,bE,qI,hv1,hx1⟩:=Row.some ji.out.imports (by omega);injection hv1 with jb e11 e12;subst jb;clear e11 e12;obtain ⟨b2,bF,cap2,hv2,hx2⟩:=Row.some jk.out.imports (by omega);injection hv2 with jc jd je;subst jc;clear jd je;obtain ⟨x,hxk⟩:∃x,m.imports[j]?=some x:=⟨_,List.getElem?_eq_getElem (by omega)⟩;have HX:=aa ((hx1 j x hxk).on aK.out);have HY:=aa ((hx2 j x hxk).on aK.out);clear hx1 hx2 hxk ji jk HM HK;obtain ⟨kR,kS,mN⟩:=HX.out;obtain ⟨kU,kX,mO⟩:=HY.out;go_upto_region 11 with fail;refine af.rV 11 62 303 [.pointer (some ⟨p1,1,none⟩),.slice (some ⟨b1,bE,none⟩) n1 k1,.int .i64 j,.pointer (some ⟨b1,bE+j*3,none⟩),.agg #[.string x.mod,.string x.name,.int .i64 x.type],.pointer (some ⟨p2,1,none⟩),.slice (some ⟨b2,bF,none⟩) n1 h1,.int .i64 j,.pointer (some ⟨b2,bF+j*3,none⟩),.agg #[.string x.mod,.string x.name,.int .i64 x.type],.bool false] (by kernel_rfl) (by kernel_rfl) (by kernel_rfl) rfl ?hstep ?hend
      case hstep =>
       intro i o a w hi ho hF hB hd;have uh:=(HP.out.on (aK.out.trans (hB.mono aK.out.size))).cell 1 _ rfl;have ui:=(HQ.out.on (aK.out.trans (hB.mono aK.out.size))).cell 1 _ rfl;have uj:=aF hB kR;have uk:=aF hB kS;have vR:=aF hB mN;have um:=aF hB kU;have uo:=aF hB kX;have vS:=aF hB mO;have f2:a.tmps[2]?.getD undef=.pointer (some ⟨p1,0,none⟩):=af.av (hF.eval 2 (fun i hi=>by show 62+i≠2;omega));have f3:a.tmps[3]?.getD undef=.pointer (some ⟨p2,0,none⟩):=af.av (hF.eval 3 (fun i hi=>by show 62+i≠3;omega));have f6:a.tmps[6]?.getD undef=.int .i64 j:=af.av (hF.eval 6 (fun i hi=>by show 62+i≠6;omega))
       iterate 11 (rcases Nat.lt_succ_iff_lt_or_eq.1 hi with hi|rfl)
       exact absurd hi (Nat.not_lt_zero _)
       all_goals (
        simp only [List.getElem?_toArray,List.getElem?_cons_succ,List.getElem?_cons_zero,Option.some.injEq] at ho;subst ho
        first
        | refine af.Does.go rfl (af.aR fun K hK=>?_)
        | refine af.qa rfl rfl rfl rfl (hd _ (by decide)) (af.aR fun K hK=>?_)
        simp [af.deps,Region.binds] at hd;go_simp
        first|exact hK _ _ ⟨_,rfl,Below.refl _ _,rfl⟩)
      case hend =>
       intro a w2 hF hB hG;have gl:a.eval (.tmp 72)=.bool false:=hG 10 (by omega);have HW2:=aa (aK.out.trans (hB.mono aK.out.size));obtain ⟨xl,hxl,rfl,hev⟩:=hF.lit (by simp);rw [hev 10 (by omega)] at gl;obtain ⟨x0,x1,x2,x3,x4,x5,x6,x7,x8,x9,cn,rfl⟩:=BW hxl;obtain rfl:cn=.bool false:=gl;clear hev hxl hF hG hB;simp only [List.take_succ_cons,List.take_zero,List.drop_succ_cons,List.drop_zero,List.cons_append,List.nil_append];go_wp2;go_roundw
       case rel=>exact ⟨j+1,by omega,by go_num,HW2⟩
       case measure=>simp [intOf];omega
     ·obtain rfl:n1=j:=by omega
      go_wp2_with fail;go_loopw [7] (fun i wr=>∃j:Nat,j<=n2/\i=.int .i64 j/\Hid (Below u1.heap.size u1 wr)) (fun i _=>n2-(intOf i).toNat)
      case atStart=>exact ⟨0,by omega,rfl,aK⟩
      case round =>
       clear aK;obtain ⟨j,hj,rfl,aK⟩:=hrel;have kp:=(HP.out.on aK.out).cell 2 _ rfl;by_cases hgo:j<n2
       ·obtain ⟨b1,bE,qI,hv1,hx1⟩:=Row.some ji.out.funcs (by omega);injection hv1 with jb e11 e12;subst jb;clear e11 e12;obtain ⟨b2,bF,cap2,hv2,hx2⟩:=Row.some jk.out.funcs (by omega);injection hv2 with jc jd je;subst jc;clear jd je;obtain ⟨x,hxk⟩:∃x,m.funcs[j]?=some x:=⟨_,List.getElem?_eq_getElem (by omega)⟩;have HX:=aa ((hx1 j x hxk).on aK.out);have HY:=aa ((hx2 j x hxk).on aK.out);clear hx1 hx2 hxk ji jk HM HK;obtain ⟨kR,⟨v1,kS,a1⟩,⟨v2,mN,a2⟩⟩:=HX.out;obtain ⟨q1,z1,rfl⟩:=Row.len a1;have EL:=aa a1;clear a1;obtain ⟨q2,z2,rfl⟩:=At.len d _ _ a2;have EM:=aa a2;clear a2;obtain ⟨kU,⟨v1,kX,a1⟩,⟨v2,mO,a2⟩⟩:=HY.out;obtain ⟨r1,t1,rfl⟩:=Row.len a1;have EN:=aa a1;clear a1;obtain ⟨r2,t2,rfl⟩:=At.len d _ _ a2;have EO:=aa a2;clear a2;generalize hy1:x.locals.length=y1 at *;generalize hy2:size d x.body=y2 at *;go_upto_region 16 with fail;refine af.rV 45 80 303 [.pointer (some ⟨p1,2,none⟩),.slice (some ⟨b1,bE,none⟩) n2 k2,.int .i64 j,.pointer (some ⟨b1,bE+j*3,none⟩),.pointer (some ⟨b1,bE+j*3,none⟩),.int .i64 x.type,.pointer (some ⟨p2,2,none⟩),.slice (some ⟨b2,bF,none⟩) n2 h2,.int .i64 j,.pointer (some ⟨b2,bF+j*3,none⟩),.pointer (some ⟨b2,bF+j*3,none⟩),.int .i64 x.type,.bool false,.bool false,.pointer (some ⟨p1,2,none⟩),.slice (some ⟨b1,bE,none⟩) n2 k2,.int .i64 j,.pointer (some ⟨b1,bE+j*3,none⟩),.pointer (some ⟨b1,bE+j*3+1,none⟩),.slice q1 y1 z1,.pointer (some ⟨p2,2,none⟩),.slice (some ⟨b2,bF,none⟩) n2 h2,.int .i64 j,.pointer (some ⟨b2,bF+j*3,none⟩),.pointer (some ⟨b2,bF+j*3+1,none⟩),.slice r1 y1 t1,.bool true,.bool false,.bool false,.bool false,.pointer (some ⟨p1,2,none⟩),.slice (some ⟨b1,bE,none⟩) n2 k2,.int .i64 j,.pointer (some ⟨b1,bE+j*3,none⟩),.pointer (some ⟨b1,bE+j*3+2,none⟩),.slice q2 y2 z2,.pointer (some ⟨p2,2,none⟩),.slice (some ⟨b2,bF,none⟩) n2 h2,.int .i64 j,.pointer (some ⟨b2,bF+j*3,none⟩),.pointer (some ⟨b2,bF+j*3+2,none⟩),.slice r2 y2 t2,.bool true,.bool false,.bool false] (by kernel_rfl) (by kernel_rfl) (by kernel_rfl) rfl ?hstep ?hend
        case hstep =>
         intro i o a w hi ho hF hB hd;have uh:=(HP.out.on (aK.out.trans (hB.mono aK.out.size))).cell 2 _ rfl;have ui:=(HQ.out.on (aK.out.trans (hB.mono aK.out.size))).cell 2 _ rfl;have uj:=aF hB kR;have uk:=aF hB kS;have vR:=aF hB mN;have um:=aF hB kU;have uo:=aF hB kX;have vS:=aF hB mO;have f2:a.tmps[2]?.getD undef=.pointer (some ⟨p1,0,none⟩):=af.av (hF.eval 2 (fun i hi=>by show 80+i≠2;omega));have f3:a.tmps[3]?.getD undef=.pointer (some ⟨p2,0,none⟩):=af.av (hF.eval 3 (fun i hi=>by show 80+i≠3;omega));have f7:a.tmps[7]?.getD undef=.int .i64 j:=af.av (hF.eval 7 (fun i hi=>by show 80+i≠7;omega))
         iterate 45 (rcases Nat.lt_succ_iff_lt_or_eq.1 hi with hi|rfl)
         exact absurd hi (Nat.not_lt_zero _)
         all_goals (
          simp only [List.getElem?_toArray,List.getElem?_cons_succ,List.getElem?_cons_zero,Option.some.injEq] at ho;subst ho
          first
          | refine af.Does.go rfl (af.aR fun K hK=>?_)
          | refine af.qa rfl rfl rfl rfl (hd _ (by decide)) (af.aR fun K hK=>?_)
          simp [af.deps,Region.binds] at hd;go_simp
          first|exact hK _ _ ⟨_,rfl,Below.refl _ _,rfl⟩|(have h9:=(vU _ _ _ _ w (EL.out.on hB) (EN.out.on hB));with_reducible refine h9.mono ?_;rintro e w' ⟨rfl,hw⟩;exact hK _ _ ⟨_,rfl,aA.xy hw,by simp [af.lJ]⟩)|(have h9:=(CL d _ _ _ _ w (At.on hB d _ _ EM.out) (At.on hB d _ _ EO.out));with_reducible refine h9.mono ?_;rintro e w' ⟨rfl,hw⟩;exact hK _ _ ⟨_,rfl,hw,by simp [af.lJ,AO]⟩))
        case hend =>
         intro a w2 hF hB hG;have gl:a.eval (.tmp 124)=.bool false:=hG 44 (by omega);have HW2:=aa (aK.out.trans (hB.mono aK.out.size));obtain ⟨xl,hxl,rfl,hev⟩:=hF.lit (by simp);rw [hev 44 (by omega)] at gl;obtain ⟨x0,x1,x2,x3,x4,x5,x6,x7,x8,x9,cn,dK,dM,dN,dO,dP,dQ,dR,dS,fL,ic,ig,ij,ik,il,jK,jL,jM,jg,kQ,rW,rX,rY,rZ,r9,si,sj,su,sw,sx,sD,sF,sG,qJ,Am,rfl⟩:=Uc hxl;obtain rfl:Am=.bool false:=gl;clear hev hxl hF hG hB;simp only [List.take_succ_cons,List.take_zero,List.drop_succ_cons,List.drop_zero,List.cons_append,List.nil_append];go_wp2;go_roundw
         case rel=>exact ⟨j+1,by omega,by go_num,HW2⟩
         case measure=>simp [intOf];omega
       ·obtain rfl:n2=j:=by omega
        go_wp2_with fail;go_loopw [8] (fun i wr=>∃j:Nat,j<=n3/\i=.int .i64 j/\Hid (Below u1.heap.size u1 wr)) (fun i _=>n3-(intOf i).toNat)
        case atStart=>exact ⟨0,by omega,rfl,aK⟩
        case round =>
         clear aK;obtain ⟨j,hj,rfl,aK⟩:=hrel;have kp:=(HP.out.on aK.out).cell 3 _ rfl;by_cases hgo:j<n3
         ·obtain ⟨b1,bE,qI,hv1,hx1⟩:=Row.some ji.out.tables (by omega);injection hv1 with jb e11 e12;subst jb;clear e11 e12;obtain ⟨b2,bF,cap2,hv2,hx2⟩:=Row.some jk.out.tables (by omega);injection hv2 with jc jd je;subst jc;clear jd je;obtain ⟨x,hxk⟩:∃x,m.tables[j]?=some x:=⟨_,List.getElem?_eq_getElem (by omega)⟩;have HX:=aa ((hx1 j x hxk).on aK.out);have HY:=aa ((hx2 j x hxk).on aK.out);clear hx1 hx2 hxk ji jk HM HK;obtain ⟨kR,kS,mN⟩:=HX.out;obtain ⟨kU,kX,mO⟩:=HY.out;go_upto_region 21 with fail;refine af.rV 11 132 303 [.pointer (some ⟨p1,3,none⟩),.slice (some ⟨b1,bE,none⟩) n3 k3,.int .i64 j,.pointer (some ⟨b1,bE+j*3,none⟩),.agg #[.int .i64 x.min,.int .i64 x.max,.bool x.has],.pointer (some ⟨p2,3,none⟩),.slice (some ⟨b2,bF,none⟩) n3 h3,.int .i64 j,.pointer (some ⟨b2,bF+j*3,none⟩),.agg #[.int .i64 x.min,.int .i64 x.max,.bool x.has],.bool false] (by kernel_rfl) (by kernel_rfl) (by kernel_rfl) rfl ?hstep ?hend
          case hstep =>
           intro i o a w hi ho hF hB hd;have uh:=(HP.out.on (aK.out.trans (hB.mono aK.out.size))).cell 3 _ rfl;have ui:=(HQ.out.on (aK.out.trans (hB.mono aK.out.size))).cell 3 _ rfl;have uj:=aF hB kR;have uk:=aF hB kS;have vR:=aF hB mN;have um:=aF hB kU;have uo:=aF hB kX;have vS:=aF hB mO;have f2:a.tmps[2]?.getD undef=.pointer (some ⟨p1,0,none⟩):=af.av (hF.eval 2 (fun i hi=>by show 132+i≠2;omega));have f3:a.tmps[3]?.getD undef=.pointer (some ⟨p2,0,none⟩):=af.av (hF.eval 3 (fun i hi=>by show 132+i≠3;omega));have f8:a.tmps[8]?.getD undef=.int .i64 j:=af.av (hF.eval 8 (fun i hi=>by show 132+i≠8;omega))
           iterate 11 (rcases Nat.lt_succ_iff_lt_or_eq.1 hi with hi|rfl)
           exact absurd hi (Nat.not_lt_zero _)
           all_goals (
            simp only [List.getElem?_toArray,List.getElem?_cons_succ,List.getElem?_cons_zero,Option.some.injEq] at ho;subst ho
            first
            | refine af.Does.go rfl (af.aR fun K hK=>?_)
            | refine af.qa rfl rfl rfl rfl (hd _ (by decide)) (af.aR fun K hK=>?_)
            simp [af.deps,Region.binds] at hd;go_simp
            first|exact hK _ _ ⟨_,rfl,Below.refl _ _,rfl⟩)
          case hend =>
           intro a w2 hF hB hG;have gl:a.eval (.tmp 142)=.bool false:=hG 10 (by omega);have HW2:=aa (aK.out.trans (hB.mono aK.out.size));obtain ⟨xl,hxl,rfl,hev⟩:=hF.lit (by simp);rw [hev 10 (by omega)] at gl;obtain ⟨x0,x1,x2,x3,x4,x5,x6,x7,x8,x9,cn,rfl⟩:=BW hxl;obtain rfl:cn=.bool false:=gl;clear hev hxl hF hG hB;simp only [List.take_succ_cons,List.take_zero,List.drop_succ_cons,List.drop_zero,List.cons_append,List.nil_append];go_wp2;go_roundw
           case rel=>exact ⟨j+1,by omega,by go_num,HW2⟩
           case measure=>simp [intOf];omega
         ·obtain rfl:n3=j:=by omega
          go_wp2_with fail;go_loopw [9] (fun i wr=>∃j:Nat,j<=n4/\i=.int .i64 j/\Hid (Below u1.heap.size u1 wr)) (fun i _=>n4-(intOf i).toNat)
          case atStart=>exact ⟨0,by omega,rfl,aK⟩
          case round =>
           clear aK;obtain ⟨j,hj,rfl,aK⟩:=hrel;have kp:=(HP.out.on aK.out).cell 4 _ rfl;by_cases hgo:j<n4
           ·obtain ⟨b1,bE,qI,hv1,hx1⟩:=Row.some ji.out.dU (by omega);injection hv1 with jb e11 e12;subst jb;clear e11 e12;obtain ⟨b2,bF,cap2,hv2,hx2⟩:=Row.some jk.out.dU (by omega);injection hv2 with jc jd je;subst jc;clear jd je;obtain ⟨x,hxk⟩:∃x,m.dU[j]?=some x:=⟨_,List.getElem?_eq_getElem (by omega)⟩;have HX:=aa ((hx1 j x hxk).on aK.out);have HY:=aa ((hx2 j x hxk).on aK.out);clear hx1 hx2 hxk ji jk HM HK;obtain ⟨kR,kS,mN⟩:=HX.out;obtain ⟨kU,kX,mO⟩:=HY.out;go_upto_region 26 with fail;refine af.rV 11 150 303 [.pointer (some ⟨p1,4,none⟩),.slice (some ⟨b1,bE,none⟩) n4 k4,.int .i64 j,.pointer (some ⟨b1,bE+j*3,none⟩),.agg #[.int .i64 x.min,.int .i64 x.max,.bool x.has],.pointer (some ⟨p2,4,none⟩),.slice (some ⟨b2,bF,none⟩) n4 h4,.int .i64 j,.pointer (some ⟨b2,bF+j*3,none⟩),.agg #[.int .i64 x.min,.int .i64 x.max,.bool x.has],.bool false] (by kernel_rfl) (by kernel_rfl) (by kernel_rfl) rfl ?hstep ?hend
            case hstep =>
             intro i o a w hi ho hF hB hd;have uh:=(HP.out.on (aK.out.trans (hB.mono aK.out.size))).cell 4 _ rfl;have ui:=(HQ.out.on (aK.out.trans (hB.mono aK.out.size))).cell 4 _ rfl;have uj:=aF hB kR;have uk:=aF hB kS;have vR:=aF hB mN;have um:=aF hB kU;have uo:=aF hB kX;have vS:=aF hB mO;have f2:a.tmps[2]?.getD undef=.pointer (some ⟨p1,0,none⟩):=af.av (hF.eval 2 (fun i hi=>by show 150+i≠2;omega));have f3:a.tmps[3]?.getD undef=.pointer (some ⟨p2,0,none⟩):=af.av (hF.eval 3 (fun i hi=>by show 150+i≠3;omega));have f9:a.tmps[9]?.getD undef=.int .i64 j:=af.av (hF.eval 9 (fun i hi=>by show 150+i≠9;omega))
             iterate 11 (rcases Nat.lt_succ_iff_lt_or_eq.1 hi with hi|rfl)
             exact absurd hi (Nat.not_lt_zero _)
             all_goals (
              simp only [List.getElem?_toArray,List.getElem?_cons_succ,List.getElem?_cons_zero,Option.some.injEq] at ho;subst ho
              first
              | refine af.Does.go rfl (af.aR fun K hK=>?_)
              | refine af.qa rfl rfl rfl rfl (hd _ (by decide)) (af.aR fun K hK=>?_)
              simp [af.deps,Region.binds] at hd;go_simp
              first|exact hK _ _ ⟨_,rfl,Below.refl _ _,rfl⟩)
            case hend =>
             intro a w2 hF hB hG;have gl:a.eval (.tmp 160)=.bool false:=hG 10 (by omega);have HW2:=aa (aK.out.trans (hB.mono aK.out.size));obtain ⟨xl,hxl,rfl,hev⟩:=hF.lit (by simp);rw [hev 10 (by omega)] at gl;obtain ⟨x0,x1,x2,x3,x4,x5,x6,x7,x8,x9,cn,rfl⟩:=BW hxl;obtain rfl:cn=.bool false:=gl;clear hev hxl hF hG hB;simp only [List.take_succ_cons,List.take_zero,List.drop_succ_cons,List.drop_zero,List.cons_append,List.nil_append];go_wp2;go_roundw
             case rel=>exact ⟨j+1,by omega,by go_num,HW2⟩
             case measure=>simp [intOf];omega
           ·obtain rfl:n4=j:=by omega
            go_wp2_with fail;go_loopw [10] (fun i wr=>∃j:Nat,j<=n5/\i=.int .i64 j/\Hid (Below u1.heap.size u1 wr)) (fun i _=>n5-(intOf i).toNat)
            case atStart=>exact ⟨0,by omega,rfl,aK⟩
            case round =>
             clear aK;obtain ⟨j,hj,rfl,aK⟩:=hrel;have kp:=(HP.out.on aK.out).cell 5 _ rfl;by_cases hgo:j<n5
             ·obtain ⟨b1,bE,qI,hv1,hx1⟩:=Row.some ji.out.globals (by omega);injection hv1 with jb e11 e12;subst jb;clear e11 e12;obtain ⟨b2,bF,cap2,hv2,hx2⟩:=Row.some jk.out.globals (by omega);injection hv2 with jc jd je;subst jc;clear jd je;obtain ⟨x,hxk⟩:∃x,m.globals[j]?=some x:=⟨_,List.getElem?_eq_getElem (by omega)⟩;have HX:=aa ((hx1 j x hxk).on aK.out);have HY:=aa ((hx2 j x hxk).on aK.out);clear hx1 hx2 hxk ji jk HM HK;obtain ⟨kR,kS,⟨mN,Ao,Ap,Aq,⟨v4,Ar,a4⟩,⟨v5,Au,a5⟩,⟨v6,Uh,a6⟩⟩⟩:=HX.out;obtain ⟨q4,z4,rfl⟩:=Row.len a4;have qK:=aa a4;clear a4;obtain ⟨q5,z5,rfl⟩:=At.len d _ _ a5;have oH:=aa a5;clear a5;obtain ⟨q6,z6,rfl⟩:=At.len d _ _ a6;have nC:=aa a6;clear a6;obtain ⟨kU,kX,⟨mO,Av,Aw,Ay,⟨v4,Az,a4⟩,⟨v5,AA,a5⟩,⟨v6,Ui,a6⟩⟩⟩:=HY.out;obtain ⟨r4,t4,rfl⟩:=Row.len a4;have qL:=aa a4;clear a4;obtain ⟨r5,t5,rfl⟩:=At.len d _ _ a5;have oI:=aa a5;clear a5;obtain ⟨r6,t6,rfl⟩:=At.len d _ _ a6;have nD:=aa a6;clear a6;generalize KG:x.init.labels.length=y4 at *;generalize KH:size d x.init.body=y5 at *;generalize KI:size d x.init.els=y6 at *;go_upto_region 31 with fail;refine af.rV 44 168 303 [.pointer (some ⟨p1,5,none⟩),.slice (some ⟨b1,bE,none⟩) n5 k5,.int .i64 j,.pointer (some ⟨b1,bE+j*9,none⟩),.pointer (some ⟨b1,bE+j*9,none⟩),.int .i64 x.type,.pointer (some ⟨p2,5,none⟩),.slice (some ⟨b2,bF,none⟩) n5 h5,.int .i64 j,.pointer (some ⟨b2,bF+j*9,none⟩),.pointer (some ⟨b2,bF+j*9,none⟩),.int .i64 x.type,.bool false,.bool false,.pointer (some ⟨p1,5,none⟩),.slice (some ⟨b1,bE,none⟩) n5 k5,.int .i64 j,.pointer (some ⟨b1,bE+j*9,none⟩),.pointer (some ⟨b1,bE+j*9+1,none⟩),.bool x.fT,.pointer (some ⟨p2,5,none⟩),.slice (some ⟨b2,bF,none⟩) n5 h5,.int .i64 j,.pointer (some ⟨b2,bF+j*9,none⟩),.pointer (some ⟨b2,bF+j*9+1,none⟩),.bool x.fT,.bool false,.bool false,.bool false,.pointer (some ⟨p1,5,none⟩),.slice (some ⟨b1,bE,none⟩) n5 k5,.int .i64 j,.pointer (some ⟨b1,bE+j*9,none⟩),.pointer (some ⟨b1,bE+j*9+2,none⟩),.agg #[.int .i64 x.init.op,.int .i64 x.init.a,.int .i64 x.init.b,.int .i64 x.init.n,.slice q4 y4 z4,.slice q5 y5 z5,.slice q6 y6 z6],.pointer (some ⟨p2,5,none⟩),.slice (some ⟨b2,bF,none⟩) n5 h5,.int .i64 j,.pointer (some ⟨b2,bF+j*9,none⟩),.pointer (some ⟨b2,bF+j*9+2,none⟩),.agg #[.int .i64 x.init.op,.int .i64 x.init.a,.int .i64 x.init.b,.int .i64 x.init.n,.slice r4 y4 t4,.slice r5 y5 t5,.slice r6 y6 t6],.bool true,.bool false,.bool false] (by kernel_rfl) (by kernel_rfl) (by kernel_rfl) rfl ?hstep ?hend
              case hstep =>
               intro i o a w hi ho hF hB hd;have uh:=(HP.out.on (aK.out.trans (hB.mono aK.out.size))).cell 5 _ rfl;have ui:=(HQ.out.on (aK.out.trans (hB.mono aK.out.size))).cell 5 _ rfl;have uj:=aF hB kR;have uk:=aF hB kS;have vR:=aF hB mN;have KJ:=aF hB Ao;have KM:=aF hB Ap;have KN:=aF hB Aq;have KO:=aF hB Ar;have KP:=aF hB Au;have V2:=aF hB Uh;have um:=aF hB kU;have uo:=aF hB kX;have vS:=aF hB mO;have KQ:=aF hB Av;have KT:=aF hB Aw;have KU:=aF hB Ay;have KV:=aF hB Az;have KW:=aF hB AA;have V3:=aF hB Ui;have f2:a.tmps[2]?.getD undef=.pointer (some ⟨p1,0,none⟩):=af.av (hF.eval 2 (fun i hi=>by show 168+i≠2;omega));have f3:a.tmps[3]?.getD undef=.pointer (some ⟨p2,0,none⟩):=af.av (hF.eval 3 (fun i hi=>by show 168+i≠3;omega));have f10:a.tmps[10]?.getD undef=.int .i64 j:=af.av (hF.eval 10 (fun i hi=>by show 168+i≠10;omega))
               iterate 44 (rcases Nat.lt_succ_iff_lt_or_eq.1 hi with hi|rfl)
               exact absurd hi (Nat.not_lt_zero _)
               all_goals (
                simp only [List.getElem?_toArray,List.getElem?_cons_succ,List.getElem?_cons_zero,Option.some.injEq] at ho;subst ho
                first
                | refine af.Does.go rfl (af.aR fun K hK=>?_)
                | refine af.qa rfl rfl rfl rfl (hd _ (by decide)) (af.aR fun K hK=>?_)
                simp [af.deps,Region.binds] at hd;go_simp
                first|exact hK _ _ ⟨_,rfl,Below.refl _ _,rfl⟩|(have h9:=(CM d _ _ _ _ _ _ _ _ _ _ _ _ _ _ _ _ _ _ _ _ w (qK.out.on hB) (At.on hB d _ _ oH.out) (At.on hB d _ _ nC.out) (qL.out.on hB) (At.on hB d _ _ oI.out) (At.on hB d _ _ nD.out));with_reducible refine h9.mono ?_;rintro e w' ⟨rfl,hw⟩;exact hK _ _ ⟨_,rfl,hw,by simp [af.lJ,Ce]⟩))
              case hend =>
               intro a w2 hF hB hG;have gl:a.eval (.tmp 211)=.bool false:=hG 43 (by omega);have HW2:=aa (aK.out.trans (hB.mono aK.out.size));obtain ⟨xl,hxl,rfl,hev⟩:=hF.lit (by simp);rw [hev 43 (by omega)] at gl;obtain ⟨x0,x1,x2,x3,x4,x5,x6,x7,x8,x9,cn,dK,dM,dN,dO,dP,dQ,dR,dS,fL,ic,ig,ij,ik,il,jK,jL,jM,jg,kQ,rW,rX,rY,rZ,r9,si,sj,su,sw,sx,sD,sF,sG,qJ,rfl⟩:=Ue hxl;obtain rfl:qJ=.bool false:=gl;clear hev hxl hF hG hB;simp only [List.take_succ_cons,List.take_zero,List.drop_succ_cons,List.drop_zero,List.cons_append,List.nil_append];go_wp2;go_roundw
               case rel=>exact ⟨j+1,by omega,by go_num,HW2⟩
               case measure=>simp [intOf];omega
             ·obtain rfl:n5=j:=by omega
              go_wp2_with fail;go_loopw [11] (fun i wr=>∃j:Nat,j<=n6/\i=.int .i64 j/\Hid (Below u1.heap.size u1 wr)) (fun i _=>n6-(intOf i).toNat)
              case atStart=>exact ⟨0,by omega,rfl,aK⟩
              case round =>
               clear aK;obtain ⟨j,hj,rfl,aK⟩:=hrel;have kp:=(HP.out.on aK.out).cell 6 _ rfl;by_cases hgo:j<n6
               ·obtain ⟨b1,bE,qI,hv1,hx1⟩:=Row.some ji.out.exports (by omega);injection hv1 with jb e11 e12;subst jb;clear e11 e12;obtain ⟨b2,bF,cap2,hv2,hx2⟩:=Row.some jk.out.exports (by omega);injection hv2 with jc jd je;subst jc;clear jd je;obtain ⟨x,hxk⟩:∃x,m.exports[j]?=some x:=⟨_,List.getElem?_eq_getElem (by omega)⟩;have HX:=aa ((hx1 j x hxk).on aK.out);have HY:=aa ((hx2 j x hxk).on aK.out);clear hx1 hx2 hxk ji jk HM HK;obtain ⟨kR,kS,mN⟩:=HX.out;obtain ⟨kU,kX,mO⟩:=HY.out;go_upto_region 36 with fail;refine af.rV 11 219 303 [.pointer (some ⟨p1,6,none⟩),.slice (some ⟨b1,bE,none⟩) n6 k6,.int .i64 j,.pointer (some ⟨b1,bE+j*3,none⟩),.agg #[.string x.name,.int .i64 x.kind,.int .i64 x.index],.pointer (some ⟨p2,6,none⟩),.slice (some ⟨b2,bF,none⟩) n6 h6,.int .i64 j,.pointer (some ⟨b2,bF+j*3,none⟩),.agg #[.string x.name,.int .i64 x.kind,.int .i64 x.index],.bool false] (by kernel_rfl) (by kernel_rfl) (by kernel_rfl) rfl ?hstep ?hend
                case hstep =>
                 intro i o a w hi ho hF hB hd;have uh:=(HP.out.on (aK.out.trans (hB.mono aK.out.size))).cell 6 _ rfl;have ui:=(HQ.out.on (aK.out.trans (hB.mono aK.out.size))).cell 6 _ rfl;have uj:=aF hB kR;have uk:=aF hB kS;have vR:=aF hB mN;have um:=aF hB kU;have uo:=aF hB kX;have vS:=aF hB mO;have f2:a.tmps[2]?.getD undef=.pointer (some ⟨p1,0,none⟩):=af.av (hF.eval 2 (fun i hi=>by show 219+i≠2;omega));have f3:a.tmps[3]?.getD undef=.pointer (some ⟨p2,0,none⟩):=af.av (hF.eval 3 (fun i hi=>by show 219+i≠3;omega));have f11:a.tmps[11]?.getD undef=.int .i64 j:=af.av (hF.eval 11 (fun i hi=>by show 219+i≠11;omega))
                 iterate 11 (rcases Nat.lt_succ_iff_lt_or_eq.1 hi with hi|rfl)
                 exact absurd hi (Nat.not_lt_zero _)
                 all_goals (
                  simp only [List.getElem?_toArray,List.getElem?_cons_succ,List.getElem?_cons_zero,Option.some.injEq] at ho;subst ho
                  first
                  | refine af.Does.go rfl (af.aR fun K hK=>?_)
                  | refine af.qa rfl rfl rfl rfl (hd _ (by decide)) (af.aR fun K hK=>?_)
                  simp [af.deps,Region.binds] at hd;go_simp
                  first|exact hK _ _ ⟨_,rfl,Below.refl _ _,rfl⟩)
                case hend =>
                 intro a w2 hF hB hG;have gl:a.eval (.tmp 229)=.bool false:=hG 10 (by omega);have HW2:=aa (aK.out.trans (hB.mono aK.out.size));obtain ⟨xl,hxl,rfl,hev⟩:=hF.lit (by simp);rw [hev 10 (by omega)] at gl;obtain ⟨x0,x1,x2,x3,x4,x5,x6,x7,x8,x9,cn,rfl⟩:=BW hxl;obtain rfl:cn=.bool false:=gl;clear hev hxl hF hG hB;simp only [List.take_succ_cons,List.take_zero,List.drop_succ_cons,List.drop_zero,List.cons_append,List.nil_append];go_wp2;go_roundw
                 case rel=>exact ⟨j+1,by omega,by go_num,HW2⟩
                 case measure=>simp [intOf];omega
               ·obtain rfl:n6=j:=by omega
                go_wp2_with fail;go_loopw [12] (fun i wr=>∃j:Nat,j<=n8/\i=.int .i64 j/\Hid (Below u1.heap.size u1 wr)) (fun i _=>n8-(intOf i).toNat)
                case atStart=>exact ⟨0,by omega,rfl,aK⟩
                case round =>
                 clear aK;obtain ⟨j,hj,rfl,aK⟩:=hrel;have kp:=(HP.out.on aK.out).cell 8 _ rfl;by_cases hgo:j<n8
                 ·obtain ⟨b1,bE,qI,hv1,hx1⟩:=Row.some ji.out.elems (by omega);injection hv1 with jb e11 e12;subst jb;clear e11 e12;obtain ⟨b2,bF,cap2,hv2,hx2⟩:=Row.some jk.out.elems (by omega);injection hv2 with jc jd je;subst jc;clear jd je;obtain ⟨x,hxk⟩:∃x,m.elems[j]?=some x:=⟨_,List.getElem?_eq_getElem (by omega)⟩;have HX:=aa ((hx1 j x hxk).on aK.out);have HY:=aa ((hx2 j x hxk).on aK.out);clear hx1 hx2 hxk ji jk HM HK;obtain ⟨⟨kR,kS,mN,Ao,⟨v4,Ap,a4⟩,⟨v5,Aq,a5⟩,⟨v6,Ar,a6⟩⟩,⟨v7,Au,a7⟩⟩:=HX.out;obtain ⟨q4,z4,rfl⟩:=Row.len a4;have qK:=aa a4;clear a4;obtain ⟨q5,z5,rfl⟩:=At.len d _ _ a5;have oH:=aa a5;clear a5;obtain ⟨q6,z6,rfl⟩:=At.len d _ _ a6;have nC:=aa a6;clear a6;obtain ⟨q7,z7,rfl⟩:=Row.len a7;have Uj:=aa a7;clear a7;obtain ⟨⟨kU,kX,mO,Av,⟨v4,Aw,a4⟩,⟨v5,Ay,a5⟩,⟨v6,Az,a6⟩⟩,⟨v7,AA,a7⟩⟩:=HY.out;obtain ⟨r4,t4,rfl⟩:=Row.len a4;have qL:=aa a4;clear a4;obtain ⟨r5,t5,rfl⟩:=At.len d _ _ a5;have oI:=aa a5;clear a5;obtain ⟨r6,t6,rfl⟩:=At.len d _ _ a6;have nD:=aa a6;clear a6;obtain ⟨r7,t7,rfl⟩:=Row.len a7;have Uk:=aa a7;clear a7;generalize KG:x.offset.labels.length=y4 at *;generalize KH:size d x.offset.body=y5 at *;generalize KI:size d x.offset.els=y6 at *;generalize V4:x.funcs.length=y7 at *;go_upto_region 41 with fail;refine af.rV 30 237 303 [.pointer (some ⟨p1,8,none⟩),.slice (some ⟨b1,bE,none⟩) n8 k8,.int .i64 j,.pointer (some ⟨b1,bE+j*8,none⟩),.pointer (some ⟨b1,bE+j*8,none⟩),.agg #[.int .i64 x.offset.op,.int .i64 x.offset.a,.int .i64 x.offset.b,.int .i64 x.offset.n,.slice q4 y4 z4,.slice q5 y5 z5,.slice q6 y6 z6],.pointer (some ⟨p2,8,none⟩),.slice (some ⟨b2,bF,none⟩) n8 h8,.int .i64 j,.pointer (some ⟨b2,bF+j*8,none⟩),.pointer (some ⟨b2,bF+j*8,none⟩),.agg #[.int .i64 x.offset.op,.int .i64 x.offset.a,.int .i64 x.offset.b,.int .i64 x.offset.n,.slice r4 y4 t4,.slice r5 y5 t5,.slice r6 y6 t6],.bool true,.bool false,.bool false,.pointer (some ⟨p1,8,none⟩),.slice (some ⟨b1,bE,none⟩) n8 k8,.int .i64 j,.pointer (some ⟨b1,bE+j*8,none⟩),.pointer (some ⟨b1,bE+j*8+7,none⟩),.slice q7 y7 z7,.pointer (some ⟨p2,8,none⟩),.slice (some ⟨b2,bF,none⟩) n8 h8,.int .i64 j,.pointer (some ⟨b2,bF+j*8,none⟩),.pointer (some ⟨b2,bF+j*8+7,none⟩),.slice r7 y7 t7,.bool true,.bool false,.bool false] (by kernel_rfl) (by kernel_rfl) (by kernel_rfl) rfl ?hstep ?hend
                  case hstep =>
                   intro i o a w hi ho hF hB hd;have uh:=(HP.out.on (aK.out.trans (hB.mono aK.out.size))).cell 8 _ rfl;have ui:=(HQ.out.on (aK.out.trans (hB.mono aK.out.size))).cell 8 _ rfl;have uj:=aF hB kR;have uk:=aF hB kS;have vR:=aF hB mN;have KJ:=aF hB Ao;have KM:=aF hB Ap;have KN:=aF hB Aq;have KO:=aF hB Ar;have KP:=aF hB Au;have um:=aF hB kU;have uo:=aF hB kX;have vS:=aF hB mO;have KQ:=aF hB Av;have KT:=aF hB Aw;have KU:=aF hB Ay;have KV:=aF hB Az;have KW:=aF hB AA;have f2:a.tmps[2]?.getD undef=.pointer (some ⟨p1,0,none⟩):=af.av (hF.eval 2 (fun i hi=>by show 237+i≠2;omega));have f3:a.tmps[3]?.getD undef=.pointer (some ⟨p2,0,none⟩):=af.av (hF.eval 3 (fun i hi=>by show 237+i≠3;omega));have f12:a.tmps[12]?.getD undef=.int .i64 j:=af.av (hF.eval 12 (fun i hi=>by show 237+i≠12;omega))
                   iterate 30 (rcases Nat.lt_succ_iff_lt_or_eq.1 hi with hi|rfl)
                   exact absurd hi (Nat.not_lt_zero _)
                   all_goals (
                    simp only [List.getElem?_toArray,List.getElem?_cons_succ,List.getElem?_cons_zero,Option.some.injEq] at ho;subst ho
                    first
                    | refine af.Does.go rfl (af.aR fun K hK=>?_)
                    | refine af.qa rfl rfl rfl rfl (hd _ (by decide)) (af.aR fun K hK=>?_)
                    simp [af.deps,Region.binds] at hd;go_simp
                    first|exact hK _ _ ⟨_,rfl,Below.refl _ _,rfl⟩|(have h9:=(vU _ _ _ _ w (Uj.out.on hB) (Uk.out.on hB));with_reducible refine h9.mono ?_;rintro e w' ⟨rfl,hw⟩;exact hK _ _ ⟨_,rfl,aA.xy hw,by simp [af.lJ]⟩)|(have h9:=(CM d _ _ _ _ _ _ _ _ _ _ _ _ _ _ _ _ _ _ _ _ w (qK.out.on hB) (At.on hB d _ _ oH.out) (At.on hB d _ _ nC.out) (qL.out.on hB) (At.on hB d _ _ oI.out) (At.on hB d _ _ nD.out));with_reducible refine h9.mono ?_;rintro e w' ⟨rfl,hw⟩;exact hK _ _ ⟨_,rfl,hw,by simp [af.lJ,Ce]⟩))
                  case hend =>
                   intro a w2 hF hB hG;have gl:a.eval (.tmp 266)=.bool false:=hG 29 (by omega);have HW2:=aa (aK.out.trans (hB.mono aK.out.size));obtain ⟨xl,hxl,rfl,hev⟩:=hF.lit (by simp);rw [hev 29 (by omega)] at gl;obtain ⟨x0,x1,x2,x3,x4,x5,x6,x7,x8,x9,cn,dK,dM,dN,dO,dP,dQ,dR,dS,fL,ic,ig,ij,ik,il,jK,jL,jM,jg,kQ,rfl⟩:=KD hxl;obtain rfl:kQ=.bool false:=gl;clear hev hxl hF hG hB;simp only [List.take_succ_cons,List.take_zero,List.drop_succ_cons,List.drop_zero,List.cons_append,List.nil_append];go_wp2;go_roundw
                   case rel=>exact ⟨j+1,by omega,by go_num,HW2⟩
                   case measure=>simp [intOf];omega
                 ·obtain rfl:n8=j:=by omega
                  go_wp2_with fail;go_loopw [13] (fun i wr=>∃j:Nat,j<=n9/\i=.int .i64 j/\Hid (Below u1.heap.size u1 wr)) (fun i _=>n9-(intOf i).toNat)
                  case atStart=>exact ⟨0,by omega,rfl,aK⟩
                  case round =>
                   clear aK;obtain ⟨j,hj,rfl,aK⟩:=hrel;have kp:=(HP.out.on aK.out).cell 9 _ rfl;by_cases hgo:j<n9
                   ·obtain ⟨b1,bE,qI,hv1,hx1⟩:=Row.some ji.out.dV (by omega);injection hv1 with jb e11 e12;subst jb;clear e11 e12;obtain ⟨b2,bF,cap2,hv2,hx2⟩:=Row.some jk.out.dV (by omega);injection hv2 with jc jd je;subst jc;clear jd je;obtain ⟨x,hxk⟩:∃x,m.dV[j]?=some x:=⟨_,List.getElem?_eq_getElem (by omega)⟩;have HX:=aa ((hx1 j x hxk).on aK.out);have HY:=aa ((hx2 j x hxk).on aK.out);clear hx1 hx2 hxk ji jk HM HK;obtain ⟨⟨kR,kS,mN,Ao,⟨v4,Ap,a4⟩,⟨v5,Aq,a5⟩,⟨v6,Ar,a6⟩⟩,Au⟩:=HX.out;obtain ⟨q4,z4,rfl⟩:=Row.len a4;have qK:=aa a4;clear a4;obtain ⟨q5,z5,rfl⟩:=At.len d _ _ a5;have oH:=aa a5;clear a5;obtain ⟨q6,z6,rfl⟩:=At.len d _ _ a6;have nC:=aa a6;clear a6;obtain ⟨⟨kU,kX,mO,Av,⟨v4,Aw,a4⟩,⟨v5,Ay,a5⟩,⟨v6,Az,a6⟩⟩,AA⟩:=HY.out;obtain ⟨r4,t4,rfl⟩:=Row.len a4;have qL:=aa a4;clear a4;obtain ⟨r5,t5,rfl⟩:=At.len d _ _ a5;have oI:=aa a5;clear a5;obtain ⟨r6,t6,rfl⟩:=At.len d _ _ a6;have nD:=aa a6;clear a6;generalize KG:x.offset.labels.length=y4 at *;generalize KH:size d x.offset.body=y5 at *;generalize KI:size d x.offset.els=y6 at *;go_upto_region 46 with fail;refine af.rV 29 274 303 [.pointer (some ⟨p1,9,none⟩),.slice (some ⟨b1,bE,none⟩) n9 k9,.int .i64 j,.pointer (some ⟨b1,bE+j*8,none⟩),.pointer (some ⟨b1,bE+j*8+7,none⟩),.string x.bytes,.pointer (some ⟨p2,9,none⟩),.slice (some ⟨b2,bF,none⟩) n9 h9,.int .i64 j,.pointer (some ⟨b2,bF+j*8,none⟩),.pointer (some ⟨b2,bF+j*8+7,none⟩),.string x.bytes,.bool false,.bool false,.pointer (some ⟨p1,9,none⟩),.slice (some ⟨b1,bE,none⟩) n9 k9,.int .i64 j,.pointer (some ⟨b1,bE+j*8,none⟩),.pointer (some ⟨b1,bE+j*8,none⟩),.agg #[.int .i64 x.offset.op,.int .i64 x.offset.a,.int .i64 x.offset.b,.int .i64 x.offset.n,.slice q4 y4 z4,.slice q5 y5 z5,.slice q6 y6 z6],.pointer (some ⟨p2,9,none⟩),.slice (some ⟨b2,bF,none⟩) n9 h9,.int .i64 j,.pointer (some ⟨b2,bF+j*8,none⟩),.pointer (some ⟨b2,bF+j*8,none⟩),.agg #[.int .i64 x.offset.op,.int .i64 x.offset.a,.int .i64 x.offset.b,.int .i64 x.offset.n,.slice r4 y4 t4,.slice r5 y5 t5,.slice r6 y6 t6],.bool true,.bool false,.bool false] (by kernel_rfl) (by kernel_rfl) (by kernel_rfl) rfl ?hstep ?hend
                    case hstep =>
                     intro i o a w hi ho hF hB hd;have uh:=(HP.out.on (aK.out.trans (hB.mono aK.out.size))).cell 9 _ rfl;have ui:=(HQ.out.on (aK.out.trans (hB.mono aK.out.size))).cell 9 _ rfl;have uj:=aF hB kR;have uk:=aF hB kS;have vR:=aF hB mN;have KJ:=aF hB Ao;have KM:=aF hB Ap;have KN:=aF hB Aq;have KO:=aF hB Ar;have KP:=aF hB Au;have um:=aF hB kU;have uo:=aF hB kX;have vS:=aF hB mO;have KQ:=aF hB Av;have KT:=aF hB Aw;have KU:=aF hB Ay;have KV:=aF hB Az;have KW:=aF hB AA;have f2:a.tmps[2]?.getD undef=.pointer (some ⟨p1,0,none⟩):=af.av (hF.eval 2 (fun i hi=>by show 274+i≠2;omega));have f3:a.tmps[3]?.getD undef=.pointer (some ⟨p2,0,none⟩):=af.av (hF.eval 3 (fun i hi=>by show 274+i≠3;omega));have f13:a.tmps[13]?.getD undef=.int .i64 j:=af.av (hF.eval 13 (fun i hi=>by show 274+i≠13;omega))
                     iterate 29 (rcases Nat.lt_succ_iff_lt_or_eq.1 hi with hi|rfl)
                     exact absurd hi (Nat.not_lt_zero _)
                     all_goals (
                      simp only [List.getElem?_toArray,List.getElem?_cons_succ,List.getElem?_cons_zero,Option.some.injEq] at ho;subst ho
                      first
                      | refine af.Does.go rfl (af.aR fun K hK=>?_)
                      | refine af.qa rfl rfl rfl rfl (hd _ (by decide)) (af.aR fun K hK=>?_)
                      simp [af.deps,Region.binds] at hd;go_simp
                      first|exact hK _ _ ⟨_,rfl,Below.refl _ _,rfl⟩|(have h9:=(CM d _ _ _ _ _ _ _ _ _ _ _ _ _ _ _ _ _ _ _ _ w (qK.out.on hB) (At.on hB d _ _ oH.out) (At.on hB d _ _ nC.out) (qL.out.on hB) (At.on hB d _ _ oI.out) (At.on hB d _ _ nD.out));with_reducible refine h9.mono ?_;rintro e w' ⟨rfl,hw⟩;exact hK _ _ ⟨_,rfl,hw,by simp [af.lJ,Ce]⟩))
                    case hend =>
                     intro a w2 hF hB hG;have gl:a.eval (.tmp 302)=.bool false:=hG 28 (by omega);have HW2:=aa (aK.out.trans (hB.mono aK.out.size));obtain ⟨xl,hxl,rfl,hev⟩:=hF.lit (by simp);rw [hev 28 (by omega)] at gl;obtain ⟨x0,x1,x2,x3,x4,x5,x6,x7,x8,x9,cn,dK,dM,dN,dO,dP,dQ,dR,dS,fL,ic,ig,ij,ik,il,jK,jL,jM,jg,rfl⟩:=Uf hxl;obtain rfl:jg=.bool false:=gl;clear hev hxl hF hG hB;simp only [List.take_succ_cons,List.take_zero,List.drop_succ_cons,List.drop_zero,List.cons_append,List.nil_append];go_wp2;go_roundw
                     case rel=>exact ⟨j+1,by omega,by go_num,HW2⟩
                     case measure=>simp [intOf];omega
                   ·obtain rfl:n9=j:=by omega
                    go_wp2;go_ret;exact ⟨rfl,cu HU.out aK.out⟩
end Go.Proofs.YtegboefdolfdgaaGreatDoor
