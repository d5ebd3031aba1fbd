/- Texts that the claim needs. -/
import Derived.Test.YtmfcojpjpgldhaaGreatDoorQEBy40
import Derived.Test.YtmfcojpjpgldhaaGreatDoorQEBy42
import Derived.Test.YtmfcojpjpgldhaaGreatDoorQEBy43
import Derived.Test.YtmfcojpjpgldhaaGreatDoorQEBy37
import Derived.Test.YtmfcojpjpgldhaaGreatDoorQEBy0
import Derived.Test.YtmfcojpjpgldhaaGreatDoorQEBy36
namespace Go.Proofs.YtmfcojpjpgldhaaGreatDoor
open Go.RowKit aA Go.Proofs.Tryz
set_option linter.unusedVariables false
set_option maxRecDepth 100000
set_option maxHeartbeats 8000000
namespace aA
def dT (t:FT):Bool:=t.params.all typ&&t.results.all typ
def dI (i:rY):Bool:=idx i.type&&(tV i.mod&&tV i.name)
def dF {d:Nat} (f:gy d):Bool:=idx f.type&&(f.locals.all typ&&qh d f.body)
def dC {d:Nat} (x:Ins (IL d)):Bool:=qf x.op&&okF (form x.op) x.op x.a x.b x.n x.labels (size d x.body) (size d x.els)
def dG {d:Nat} (g:qp d):Bool:=[g.type].all typ&&dC g.init
def dE (e:rZ):Bool:=tV e.name&&(decide (0<=e.kind/\e.kind<=3)&&idx e.index)
def dL {d:Nat} (e:qq d):Bool:=dC e.offset&&e.funcs.all idx
def dD {d:Nat} (x:Dat d):Bool:=dC x.offset
def Bf {d:Nat} (m:Mod d):Bool :=
 m.types.all dT&&(m.imports.all dI&&(m.funcs.all dF&&(m.globals.all dG&&(m.exports.all dE&&(m.elems.all dL&&(m.ax.all dD&&(m.tables.all cB&&(m.aD.all cB&&m.start.all idx))))))))
theorem zY {α:Type} {p:α->Bool} {l:List α} {j:Nat} {x:α} {R T:Bool} (hx:l[j]?=some x) (h:R=((l.drop j).all p&&T)):R=(p x&&((l.drop (j+1)).all p&&T)):=by
 rw [h,ML hx rfl,xA]
theorem zZ {α:Type} {p:α->Bool} {l:List α} {j:Nat} {R T:Bool} (hj:l.length<=j) (h:R=((l.drop j).all p&&T)):R=T:=by
 rw [h,List.drop_of_length_le hj];rfl
end aA
theorem Xx (d:Nat) (v0 v1 v2 v3 v4 v5 v6 v7 v8 v9:Value) (m:Mod d) (w:World) (hM:da w d v0 v1 v2 v3 v4 v5 v6 v7 v8 v9 m) (hX:zF m) :
  Calls prog 54 #[.agg #[v0,v1,v2,v3,v4,v5,v6,v7,v8,v9]] w λe w'=>e=.returned (.bool (Bf m))/\Below w.heap.size w w':=by
 have l0:=hM.types.1;have l1:=hM.imports.1;have l2:=hM.funcs.1;have l3:=hM.tables.1;have l4:=hM.aD.1;have l5:=hM.globals.1;have l6:=hM.exports.1;have l7:=hM.start.1;have l8:=hM.elems.1;have l9:=hM.ax.1;have HM:=aa hM;have HX:=aa hX;obtain ⟨o0,c0,rfl⟩:=Row.len hM.types;obtain ⟨o1,c1,rfl⟩:=Row.len hM.imports;obtain ⟨o2,c2,rfl⟩:=Row.len hM.funcs;obtain ⟨o3,c3,rfl⟩:=Row.len hM.tables;obtain ⟨o4,c4,rfl⟩:=Row.len hM.aD;obtain ⟨o5,c5,rfl⟩:=Row.len hM.globals;obtain ⟨o6,c6,rfl⟩:=Row.len hM.exports;obtain ⟨o7,c7,rfl⟩:=Row.len hM.start;obtain ⟨o8,c8,rfl⟩:=Row.len hM.elems;obtain ⟨o9,c9,rfl⟩:=Row.len hM.ax;have HS:=aa (dN.start w 32 (.slice o0 m.types.length c0) (.slice o1 m.imports.length c1) (.slice o2 m.funcs.length c2) (.slice o3 m.tables.length c3) (.slice o4 m.aD.length c4) (.slice o5 m.globals.length c5) (.slice o6 m.exports.length c6) (.slice o7 m.start.length c7) (.slice o8 m.elems.length c8) (.slice o9 m.ax.length c9));obtain ⟨R,hR⟩:∃R,R=Bf m:=⟨_,rfl⟩;rw [<- hR];have HR:Hid (R=((m.types.drop 0).all dT&&(m.imports.all dI&&(m.funcs.all dF&&(m.globals.all dG&&(m.exports.all dE&&(m.elems.all dL&&(m.ax.all dD&&(m.tables.all cB&&(m.aD.all cB&&m.start.all idx)))))))))):=hR;clear hM hX hR;generalize hn0:m.types.length=n0 at *;generalize iK:m.imports.length=n1 at *;generalize gW:m.funcs.length=n2 at *;generalize ja:m.tables.length=n3 at *;generalize iG:m.aD.length=n4 at *;generalize iS:m.globals.length=n5 at *;generalize jD:m.exports.length=n6 at *;generalize iE:m.start.length=n7 at *;generalize iO:m.elems.length=n8 at *;generalize jb:m.ax.length=n9 at *;go_enter func54,ntmps54;go_upto_region 1 with fail;obtain ⟨wb,hwb⟩:∃wb,wb=w.alloc (.cells #[.slice o0 n0 c0,.slice o1 n1 c1,.slice o2 n2 c2,.slice o3 n3 c3,.slice o4 n4 c4,.slice o5 n5 c5,.slice o6 n6 c6,.slice o7 n7 c7,.slice o8 n8 c8,.slice o9 n9 c9] 32):=⟨_,rfl⟩;rw [<- hwb] at HS ⊢;clear hwb;obtain ⟨q0,q1,q2,q3,q4,q5,q6,q7,q8,q9,qb⟩:=HS.out;clear qb;go_wp2_with fail;go_loopw [3] (λi wr=>∃j:Nat,j<=n0/\i=.int .i64 j/\Hid (R=((m.types.drop j).all dT&&(m.imports.all dI&&(m.funcs.all dF&&(m.globals.all dG&&(m.exports.all dE&&(m.elems.all dL&&(m.ax.all dD&&(m.tables.all cB&&(m.aD.all cB&&m.start.all idx))))))))))/\Hid (dN w (.slice o0 n0 c0) (.slice o1 n1 c1) (.slice o2 n2 c2) (.slice o3 n3 c3) (.slice o4 n4 c4) (.slice o5 n5 c5) (.slice o6 n6 c6) (.slice o7 n7 c7) (.slice o8 n8 c8) (.slice o9 n9 c9) wr)) (λi _=>n0-(RowKit.intOf i).toNat)
 case atStart=>exact ⟨0,by omega,rfl,HR,HS⟩
 case round =>
  obtain ⟨j0,hj,rfl,HK,HS⟩:=hrel;by_cases hgo:j0<n0
  ·obtain ⟨q0,q1,q2,q3,q4,q5,q6,q7,q8,q9,qb⟩:=HS.out;clear qb q1 q2 q3 q4 q5 q6 q7 q8 q9;obtain ⟨b,off,cap2,hv2,hx⟩:=Row.some ((HM.out.on HS.out.aL).types) (by omega);injection hv2 with ho h2 h3;subst ho;obtain ⟨x,hxk⟩:∃x,m.types[j0]?=some x:=⟨_,aY (by omega)⟩;have HI:=aa (hx j0 x hxk);have HN:Hid (R=((x.params.all typ&&x.results.all typ)&&((m.types.drop (j0+1)).all dT&&(m.imports.all dI&&(m.funcs.all dF&&(m.globals.all dG&&(m.exports.all dE&&(m.elems.all dL&&(m.ax.all dD&&(m.tables.all cB&&(m.aD.all cB&&m.start.all idx))))))))))):=aa (zY hxk HK.out);clear hx hxk h2 h3 HK;obtain ⟨vp,k0,ip⟩:=HI.out.params;obtain ⟨op,cp,rfl⟩:=Row.len ip;have IP:=aa ip;clear ip;go_wp2_with fail;refine (EX _ x.params _ IP.out).mono ?_;rintro e u0 ⟨rfl,hu⟩;obtain rfl:wr=u0:=hu.symm;generalize x.params.all typ=YI at *;cases YI with
   | false =>
    obtain rfl:R=false:=HN.out;clear HN;go_wp2;go_ret;exact ⟨rfl,HS.out.aL⟩
   | true =>
    obtain ⟨vr,k1,ir⟩:=HI.out.results;obtain ⟨or,cr,rfl⟩:=Row.len ir;have IR:=aa ir;clear ir;go_wp2_with fail;refine (EX _ x.results _ IR.out).mono ?_;rintro e u1 ⟨rfl,hu⟩;obtain rfl:wr=u1:=hu.symm;generalize x.results.all typ=YJ at *;cases YJ with
    | false =>
     obtain rfl:R=false:=HN.out;clear HN;go_wp2;go_ret;exact ⟨rfl,HS.out.aL⟩
    | true =>
     have dQ:Hid (R=((m.types.drop (j0+1)).all dT&&(m.imports.all dI&&(m.funcs.all dF&&(m.globals.all dG&&(m.exports.all dE&&(m.elems.all dL&&(m.ax.all dD&&(m.tables.all cB&&(m.aD.all cB&&m.start.all idx)))))))))):=aa (by rw [HN.out];simp only [fN]);clear HN;go_wp2;go_roundw
     case rel=>exact ⟨j0+1,by omega,by go_num,dQ,HS⟩
     case measure=>simp [RowKit.intOf];omega
  obtain rfl:n0=j0:=by omega
  have HR:=aa (zZ (by omega) HK.out);clear HK;obtain ⟨q0,q1,q2,q3,q4,q5,q6,q7,q8,q9,qb⟩:=HS.out;clear qb;go_wp2_with fail;go_loopw [4] (λi wr=>∃j:Nat,j<=n1/\i=.int .i64 j/\Hid (R=((m.imports.drop j).all dI&&(m.funcs.all dF&&(m.globals.all dG&&(m.exports.all dE&&(m.elems.all dL&&(m.ax.all dD&&(m.tables.all cB&&(m.aD.all cB&&m.start.all idx)))))))))/\Hid (dN w (.slice o0 n0 c0) (.slice o1 n1 c1) (.slice o2 n2 c2) (.slice o3 n3 c3) (.slice o4 n4 c4) (.slice o5 n5 c5) (.slice o6 n6 c6) (.slice o7 n7 c7) (.slice o8 n8 c8) (.slice o9 n9 c9) wr)) (λi _=>n1-(RowKit.intOf i).toNat)
  case atStart=>exact ⟨0,by omega,rfl,HR,HS⟩
  case round =>
   obtain ⟨j1,hj,rfl,HK,HS⟩:=hrel;by_cases hgo:j1<n1
   ·obtain ⟨q0,q1,q2,q3,q4,q5,q6,q7,q8,q9,qb⟩:=HS.out;clear qb q0 q2 q3 q4 q5 q6 q7 q8 q9;obtain ⟨b,off,cap2,hv2,hx⟩:=Row.some ((HM.out.on HS.out.aL).imports) (by omega);injection hv2 with ho h2 h3;subst ho;obtain ⟨x,hxk⟩:∃x,m.imports[j1]?=some x:=⟨_,aY (by omega)⟩;have HI:=aa (hx j1 x hxk);have hz:=HX.out.imports x (dK hxk);have HN:Hid (R=((idx x.type&&(tV x.mod&&tV x.name))&&((m.imports.drop (j1+1)).all dI&&(m.funcs.all dF&&(m.globals.all dG&&(m.exports.all dE&&(m.elems.all dL&&(m.ax.all dD&&(m.tables.all cB&&(m.aD.all cB&&m.start.all idx)))))))))):=aa (zY hxk HK.out);clear hx hxk h2 h3 HK;have k2:=HI.out.type;go_wp2_with fail;refine (mG _ _).mono ?_;rintro e u0 ⟨rfl,hu⟩;obtain rfl:wr=u0:=hu.symm;generalize idx x.type=t10 at *;cases t10 with
    | false =>
     obtain rfl:R=false:=HN.out;clear HN;go_wp2;go_ret;exact ⟨rfl,HS.out.aL⟩
    | true =>
     have k0:=HI.out.mod;go_wp2_with fail;refine (G5 _ _ hz.1).mono ?_;rintro e u1 ⟨rfl,hu⟩;obtain rfl:wr=u1:=hu.symm;generalize tV x.mod=t11 at *;cases t11 with
     | false =>
      obtain rfl:R=false:=HN.out;clear HN;go_wp2;go_ret;exact ⟨rfl,HS.out.aL⟩
     | true =>
      have k1:=HI.out.name;go_wp2_with fail;refine (G5 _ _ hz.2).mono ?_;rintro e u2 ⟨rfl,hu⟩;obtain rfl:wr=u2:=hu.symm;generalize tV x.name=t12 at *;cases t12 with
      | false =>
       obtain rfl:R=false:=HN.out;clear HN;go_wp2;go_ret;exact ⟨rfl,HS.out.aL⟩
      | true =>
       have dQ:Hid (R=((m.imports.drop (j1+1)).all dI&&(m.funcs.all dF&&(m.globals.all dG&&(m.exports.all dE&&(m.elems.all dL&&(m.ax.all dD&&(m.tables.all cB&&(m.aD.all cB&&m.start.all idx))))))))):=aa (by rw [HN.out];simp only [fN]);clear HN;go_wp2;go_roundw
       case rel=>exact ⟨j1+1,by omega,by go_num,dQ,HS⟩
       case measure=>simp [RowKit.intOf];omega
   obtain rfl:n1=j1:=by omega
   have HR:=aa (zZ (by omega) HK.out);clear HK;obtain ⟨q0,q1,q2,q3,q4,q5,q6,q7,q8,q9,qb⟩:=HS.out;clear qb;go_wp2_with fail;go_loopw [5] (λi wr=>∃j:Nat,j<=n2/\i=.int .i64 j/\Hid (R=((m.funcs.drop j).all dF&&(m.globals.all dG&&(m.exports.all dE&&(m.elems.all dL&&(m.ax.all dD&&(m.tables.all cB&&(m.aD.all cB&&m.start.all idx))))))))/\Hid (dN w (.slice o0 n0 c0) (.slice o1 n1 c1) (.slice o2 n2 c2) (.slice o3 n3 c3) (.slice o4 n4 c4) (.slice o5 n5 c5) (.slice o6 n6 c6) (.slice o7 n7 c7) (.slice o8 n8 c8) (.slice o9 n9 c9) wr)) (λi _=>n2-(RowKit.intOf i).toNat)
   case atStart=>exact ⟨0,by omega,rfl,HR,HS⟩
   case round =>
    obtain ⟨j2,hj,rfl,HK,HS⟩:=hrel;by_cases hgo:j2<n2
    ·obtain ⟨q0,q1,q2,q3,q4,q5,q6,q7,q8,q9,qb⟩:=HS.out;clear qb q0 q1 q3 q4 q5 q6 q7 q8 q9;obtain ⟨b,off,cap2,hv2,hx⟩:=Row.some ((HM.out.on HS.out.aL).funcs) (by omega);injection hv2 with ho h2 h3;subst ho;obtain ⟨x,hxk⟩:∃x,m.funcs[j2]?=some x:=⟨_,aY (by omega)⟩;have HI:=aa (hx j2 x hxk);have HN:Hid (R=((idx x.type&&(x.locals.all typ&&qh d x.body))&&((m.funcs.drop (j2+1)).all dF&&(m.globals.all dG&&(m.exports.all dE&&(m.elems.all dL&&(m.ax.all dD&&(m.tables.all cB&&(m.aD.all cB&&m.start.all idx))))))))):=aa (zY hxk HK.out);clear hx hxk h2 h3 HK;have k0:=HI.out.type;go_wp2_with fail;refine (mG _ _).mono ?_;rintro e u0 ⟨rfl,hu⟩;obtain rfl:wr=u0:=hu.symm;generalize idx x.type=t20 at *;cases t20 with
     | false =>
      obtain rfl:R=false:=HN.out;clear HN;go_wp2;go_ret;exact ⟨rfl,HS.out.aL⟩
     | true =>
      obtain ⟨vp,k1,ip⟩:=HI.out.locals;obtain ⟨op,cp,rfl⟩:=Row.len ip;have IP:=aa ip;clear ip;go_wp2_with fail;refine (EX _ x.locals _ IP.out).mono ?_;rintro e u1 ⟨rfl,hu⟩;obtain rfl:wr=u1:=hu.symm;generalize x.locals.all typ=t21 at *;cases t21 with
      | false =>
       obtain rfl:R=false:=HN.out;clear HN;go_wp2;go_ret;exact ⟨rfl,HS.out.aL⟩
      | true =>
       obtain ⟨vb,k2,ab⟩:=HI.out.body;obtain ⟨ob,cb,rfl⟩:=At.len d vb _ ab;have AB:=aa ab;clear ab;go_wp2_with fail;refine (Lt d _ x.body _ AB.out).mono ?_;rintro e u2 ⟨rfl,hb⟩;have HS:=aa (HS.out.on hb);have HI:=aa (HI.out.on hb);clear hb q2 k2;obtain ⟨q0,q1,q2,q3,q4,q5,q6,q7,q8,q9,qb⟩:=HS.out;clear qb q0 q1 q3 q4 q5 q6 q7 q8 q9;generalize qh d x.body=t22 at *;cases t22 with
       | false =>
        obtain rfl:R=false:=HN.out;clear HN;go_wp2;go_ret;exact ⟨rfl,HS.out.aL⟩
       | true =>
        have dQ:Hid (R=((m.funcs.drop (j2+1)).all dF&&(m.globals.all dG&&(m.exports.all dE&&(m.elems.all dL&&(m.ax.all dD&&(m.tables.all cB&&(m.aD.all cB&&m.start.all idx)))))))):=aa (by rw [HN.out];simp only [fN]);clear HN;go_wp2;go_roundw
        case rel=>exact ⟨j2+1,by omega,by go_num,dQ,HS⟩
        case measure=>simp [RowKit.intOf];omega
    obtain rfl:n2=j2:=by omega
    have HR:=aa (zZ (by omega) HK.out);clear HK;obtain ⟨q0,q1,q2,q3,q4,q5,q6,q7,q8,q9,qb⟩:=HS.out;clear qb;go_wp2_with fail;go_loopw [6] (λi wr=>∃j:Nat,j<=n5/\i=.int .i64 j/\Hid (R=((m.globals.drop j).all dG&&(m.exports.all dE&&(m.elems.all dL&&(m.ax.all dD&&(m.tables.all cB&&(m.aD.all cB&&m.start.all idx)))))))/\Hid (dN w (.slice o0 n0 c0) (.slice o1 n1 c1) (.slice o2 n2 c2) (.slice o3 n3 c3) (.slice o4 n4 c4) (.slice o5 n5 c5) (.slice o6 n6 c6) (.slice o7 n7 c7) (.slice o8 n8 c8) (.slice o9 n9 c9) wr)) (λi _=>n5-(RowKit.intOf i).toNat)
    case atStart=>exact ⟨0,by omega,rfl,HR,HS⟩
    case round =>
     obtain ⟨j3,hj,rfl,HK,HS⟩:=hrel;by_cases hgo:j3<n5
     ·obtain ⟨q0,q1,q2,q3,q4,q5,q6,q7,q8,q9,qb⟩:=HS.out;clear qb q0 q1 q2 q3 q4 q6 q7 q8 q9;obtain ⟨b,off,cap2,hv2,hx⟩:=Row.some ((HM.out.on HS.out.aL).globals) (by omega);injection hv2 with ho h2 h3;subst ho;obtain ⟨x,hxk⟩:∃x,m.globals[j3]?=some x:=⟨_,aY (by omega)⟩;have HI:=aa (hx j3 x hxk);have HN:Hid (R=(([x.type].all typ&&(qf x.init.op&&okF (form x.init.op) x.init.op x.init.a x.init.b x.init.n x.init.labels (size d x.init.body) (size d x.init.els)))&&((m.globals.drop (j3+1)).all dG&&(m.exports.all dE&&(m.elems.all dL&&(m.ax.all dD&&(m.tables.all cB&&(m.aD.all cB&&m.start.all idx)))))))):=aa (zY hxk HK.out);clear hx hxk h2 h3 HK;have k0:=HI.out.type;go_wp2_with fail;refine (EX _ [x.type] _ (oP _ _ _ _ [x.type] (by simp) (by simp))).mono ?_;rintro e u0 ⟨rfl,hu⟩;have hb:=pG hu;clear hu;have HS:=aa (HS.out.on hb);have HI:=aa (HI.out.on hb);clear hb q5 k0;obtain ⟨q0,q1,q2,q3,q4,q5,q6,q7,q8,q9,qb⟩:=HS.out;clear qb q0 q1 q2 q3 q4 q6 q7 q8 q9;generalize [x.type].all typ=t30 at *;cases t30 with
      | false =>
       obtain rfl:R=false:=HN.out;clear HN;go_wp2;go_ret;exact ⟨rfl,HS.out.aL⟩
      | true =>
       obtain ⟨g0,g1,g2,g3,⟨lv,g4,a4⟩,⟨bv,g5,a5⟩,⟨ev,g6,a6⟩⟩:=HI.out.init;have k2:u0.cell? ⟨b,off+j3*9+2,none⟩=_:=g0;have k3:u0.cell? ⟨b,off+j3*9+3,none⟩=_:=g1;have k4:u0.cell? ⟨b,off+j3*9+4,none⟩=_:=g2;have k5:u0.cell? ⟨b,off+j3*9+5,none⟩=_:=g3;have k6:u0.cell? ⟨b,off+j3*9+6,none⟩=_:=g4;have k7:u0.cell? ⟨b,off+j3*9+7,none⟩=_:=g5;have k8:u0.cell? ⟨b,off+j3*9+8,none⟩=_:=g6;clear g0 g1 g2 g3 g4 g5 g6;obtain ⟨lo,lc,rfl⟩:=Row.len a4;obtain ⟨bo,bc,rfl⟩:=At.len d bv _ a5;obtain ⟨eo,ec,rfl⟩:=At.len d ev _ a6;have A4:=aa a4;clear a4 a5 a6;go_wp2_with fail;refine (GM x.init.op x.init.a x.init.b x.init.n x.init.labels lo bo eo _ _ lc bc ec _ A4.out).mono ?_;rintro e u1 ⟨rfl,hb⟩;have HS:=aa (HS.out.on hb);have HI:=aa (HI.out.on hb);clear hb q5 k2 k3 k4 k5 k6 k7 k8;obtain ⟨q0,q1,q2,q3,q4,q5,q6,q7,q8,q9,qb⟩:=HS.out;clear qb q0 q1 q2 q3 q4 q6 q7 q8 q9;generalize (qf x.init.op&&okF (form x.init.op) x.init.op x.init.a x.init.b x.init.n x.init.labels (size d x.init.body) (size d x.init.els))=t31 at *;cases t31 with
       | false =>
        obtain rfl:R=false:=HN.out;clear HN;go_wp2;go_ret;exact ⟨rfl,HS.out.aL⟩
       | true =>
        have dQ:Hid (R=((m.globals.drop (j3+1)).all dG&&(m.exports.all dE&&(m.elems.all dL&&(m.ax.all dD&&(m.tables.all cB&&(m.aD.all cB&&m.start.all idx))))))):=aa (by rw [HN.out];simp only [fN]);clear HN;go_wp2;go_roundw
        case rel=>exact ⟨j3+1,by omega,by go_num,dQ,HS⟩
        case measure=>simp [RowKit.intOf];omega
     obtain rfl:n5=j3:=by omega
     have HR:=aa (zZ (by omega) HK.out);clear HK;obtain ⟨q0,q1,q2,q3,q4,q5,q6,q7,q8,q9,qb⟩:=HS.out;clear qb;go_wp2_with fail;go_loopw [7] (λi wr=>∃j:Nat,j<=n6/\i=.int .i64 j/\Hid (R=((m.exports.drop j).all dE&&(m.elems.all dL&&(m.ax.all dD&&(m.tables.all cB&&(m.aD.all cB&&m.start.all idx))))))/\Hid (dN w (.slice o0 n0 c0) (.slice o1 n1 c1) (.slice o2 n2 c2) (.slice o3 n3 c3) (.slice o4 n4 c4) (.slice o5 n5 c5) (.slice o6 n6 c6) (.slice o7 n7 c7) (.slice o8 n8 c8) (.slice o9 n9 c9) wr)) (λi _=>n6-(RowKit.intOf i).toNat)
     case atStart=>exact ⟨0,by omega,rfl,HR,HS⟩
     case round =>
      obtain ⟨j4,hj,rfl,HK,HS⟩:=hrel;by_cases hgo:j4<n6
      ·obtain ⟨q0,q1,q2,q3,q4,q5,q6,q7,q8,q9,qb⟩:=HS.out;clear qb q0 q1 q2 q3 q4 q5 q7 q8 q9;obtain ⟨b,off,cap2,hv2,hx⟩:=Row.some ((HM.out.on HS.out.aL).exports) (by omega);injection hv2 with ho h2 h3;subst ho;obtain ⟨x,hxk⟩:∃x,m.exports[j4]?=some x:=⟨_,aY (by omega)⟩;have HI:=aa (hx j4 x hxk);have hz:=HX.out.exports x (dK hxk);have HN:Hid (R=((tV x.name&&(decide (0<=x.kind/\x.kind<=3)&&idx x.index))&&((m.exports.drop (j4+1)).all dE&&(m.elems.all dL&&(m.ax.all dD&&(m.tables.all cB&&(m.aD.all cB&&m.start.all idx))))))):=aa (zY hxk HK.out);clear hx hxk h2 h3 HK;have k0:=HI.out.name;go_wp2_with fail;refine (G5 _ _ hz).mono ?_;rintro e u0 ⟨rfl,hu⟩;obtain rfl:wr=u0:=hu.symm;generalize tV x.name=t40 at *;cases t40 with
       | false =>
        obtain rfl:R=false:=HN.out;clear HN;go_wp2;go_ret;exact ⟨rfl,HS.out.aL⟩
       | true =>
        have k1:=HI.out.kind;go_wp2_with fail;refine (bB _ _ _ _).mono ?_;rintro e u1 ⟨rfl,hu⟩;obtain rfl:wr=u1:=hu.symm;generalize decide (0<=x.kind/\x.kind<=3)=t41 at *;cases t41 with
        | false =>
         obtain rfl:R=false:=HN.out;clear HN;go_wp2;go_ret;exact ⟨rfl,HS.out.aL⟩
        | true =>
         have k2:=HI.out.index;go_wp2_with fail;refine (mG _ _).mono ?_;rintro e u2 ⟨rfl,hu⟩;obtain rfl:wr=u2:=hu.symm;generalize idx x.index=t42 at *;cases t42 with
         | false =>
          obtain rfl:R=false:=HN.out;clear HN;go_wp2;go_ret;exact ⟨rfl,HS.out.aL⟩
         | true =>
          have dQ:Hid (R=((m.exports.drop (j4+1)).all dE&&(m.elems.all dL&&(m.ax.all dD&&(m.tables.all cB&&(m.aD.all cB&&m.start.all idx)))))):=aa (by rw [HN.out];simp only [fN]);clear HN;go_wp2;go_roundw
          case rel=>exact ⟨j4+1,by omega,by go_num,dQ,HS⟩
          case measure=>simp [RowKit.intOf];omega
      obtain rfl:n6=j4:=by omega
      have HR:=aa (zZ (by omega) HK.out);clear HK;obtain ⟨q0,q1,q2,q3,q4,q5,q6,q7,q8,q9,qb⟩:=HS.out;clear qb;go_wp2_with fail;go_loopw [8] (λi wr=>∃j:Nat,j<=n8/\i=.int .i64 j/\Hid (R=((m.elems.drop j).all dL&&(m.ax.all dD&&(m.tables.all cB&&(m.aD.all cB&&m.start.all idx)))))/\Hid (dN w (.slice o0 n0 c0) (.slice o1 n1 c1) (.slice o2 n2 c2) (.slice o3 n3 c3) (.slice o4 n4 c4) (.slice o5 n5 c5) (.slice o6 n6 c6) (.slice o7 n7 c7) (.slice o8 n8 c8) (.slice o9 n9 c9) wr)) (λi _=>n8-(RowKit.intOf i).toNat)
      case atStart=>exact ⟨0,by omega,rfl,HR,HS⟩
      case round =>
       obtain ⟨j5,hj,rfl,HK,HS⟩:=hrel;by_cases hgo:j5<n8
       ·obtain ⟨q0,q1,q2,q3,q4,q5,q6,q7,q8,q9,qb⟩:=HS.out;clear qb q0 q1 q2 q3 q4 q5 q6 q7 q9;obtain ⟨b,off,cap2,hv2,hx⟩:=Row.some ((HM.out.on HS.out.aL).elems) (by omega);injection hv2 with ho h2 h3;subst ho;obtain ⟨x,hxk⟩:∃x,m.elems[j5]?=some x:=⟨_,aY (by omega)⟩;have HI:=aa (hx j5 x hxk);have HN:Hid (R=(((qf x.offset.op&&okF (form x.offset.op) x.offset.op x.offset.a x.offset.b x.offset.n x.offset.labels (size d x.offset.body) (size d x.offset.els))&&x.funcs.all idx)&&((m.elems.drop (j5+1)).all dL&&(m.ax.all dD&&(m.tables.all cB&&(m.aD.all cB&&m.start.all idx)))))):=aa (zY hxk HK.out);clear hx hxk h2 h3 HK;obtain ⟨g0,g1,g2,g3,⟨lv,g4,a4⟩,⟨bv,g5,a5⟩,⟨ev,g6,a6⟩⟩:=HI.out.offset;have k0:wr.cell? ⟨b,off+j5*8,none⟩=_:=g0;have k1:wr.cell? ⟨b,off+j5*8+1,none⟩=_:=g1;have k2:wr.cell? ⟨b,off+j5*8+2,none⟩=_:=g2;have k3:wr.cell? ⟨b,off+j5*8+3,none⟩=_:=g3;have k4:wr.cell? ⟨b,off+j5*8+4,none⟩=_:=g4;have k5:wr.cell? ⟨b,off+j5*8+5,none⟩=_:=g5;have k6:wr.cell? ⟨b,off+j5*8+6,none⟩=_:=g6;clear g0 g1 g2 g3 g4 g5 g6;obtain ⟨lo,lc,rfl⟩:=Row.len a4;obtain ⟨bo,bc,rfl⟩:=At.len d bv _ a5;obtain ⟨eo,ec,rfl⟩:=At.len d ev _ a6;have A4:=aa a4;clear a4 a5 a6;go_wp2_with fail;refine (GM x.offset.op x.offset.a x.offset.b x.offset.n x.offset.labels lo bo eo _ _ lc bc ec _ A4.out).mono ?_;rintro e u0 ⟨rfl,hb⟩;have HS:=aa (HS.out.on hb);have HI:=aa (HI.out.on hb);clear hb q8 k0 k1 k2 k3 k4 k5 k6;obtain ⟨q0,q1,q2,q3,q4,q5,q6,q7,q8,q9,qb⟩:=HS.out;clear qb q0 q1 q2 q3 q4 q5 q6 q7 q9;generalize (qf x.offset.op&&okF (form x.offset.op) x.offset.op x.offset.a x.offset.b x.offset.n x.offset.labels (size d x.offset.body) (size d x.offset.els))=t50 at *;cases t50 with
        | false =>
         obtain rfl:R=false:=HN.out;clear HN;go_wp2;go_ret;exact ⟨rfl,HS.out.aL⟩
        | true =>
         obtain ⟨vp,k7,ip⟩:=HI.out.funcs;obtain ⟨op,cp,rfl⟩:=Row.len ip;have IP:=aa ip;clear ip;go_wp2_with fail;refine (vH _ x.funcs _ IP.out).mono ?_;rintro e u1 ⟨rfl,hu⟩;obtain rfl:u0=u1:=hu.symm;generalize x.funcs.all idx=t51 at *;cases t51 with
         | false =>
          obtain rfl:R=false:=HN.out;clear HN;go_wp2;go_ret;exact ⟨rfl,HS.out.aL⟩
         | true =>
          have dQ:Hid (R=((m.elems.drop (j5+1)).all dL&&(m.ax.all dD&&(m.tables.all cB&&(m.aD.all cB&&m.start.all idx))))):=aa (by rw [HN.out];simp only [fN]);clear HN;go_wp2;go_roundw
          case rel=>exact ⟨j5+1,by omega,by go_num,dQ,HS⟩
          case measure=>simp [RowKit.intOf];omega
       obtain rfl:n8=j5:=by omega
       have HR:=aa (zZ (by omega) HK.out);clear HK;obtain ⟨q0,q1,q2,q3,q4,q5,q6,q7,q8,q9,qb⟩:=HS.out;clear qb;go_wp2_with fail;go_loopw [9] (λi wr=>∃j:Nat,j<=n9/\i=.int .i64 j/\Hid (R=((m.ax.drop j).all dD&&(m.tables.all cB&&(m.aD.all cB&&m.start.all idx))))/\Hid (dN w (.slice o0 n0 c0) (.slice o1 n1 c1) (.slice o2 n2 c2) (.slice o3 n3 c3) (.slice o4 n4 c4) (.slice o5 n5 c5) (.slice o6 n6 c6) (.slice o7 n7 c7) (.slice o8 n8 c8) (.slice o9 n9 c9) wr)) (λi _=>n9-(RowKit.intOf i).toNat)
       case atStart=>exact ⟨0,by omega,rfl,HR,HS⟩
       case round =>
        obtain ⟨j6,hj,rfl,HK,HS⟩:=hrel;by_cases hgo:j6<n9
        ·obtain ⟨q0,q1,q2,q3,q4,q5,q6,q7,q8,q9,qb⟩:=HS.out;clear qb q0 q1 q2 q3 q4 q5 q6 q7 q8;obtain ⟨b,off,cap2,hv2,hx⟩:=Row.some ((HM.out.on HS.out.aL).ax) (by omega);injection hv2 with ho h2 h3;subst ho;obtain ⟨x,hxk⟩:∃x,m.ax[j6]?=some x:=⟨_,aY (by omega)⟩;have HI:=aa (hx j6 x hxk);have HN:Hid (R=((qf x.offset.op&&okF (form x.offset.op) x.offset.op x.offset.a x.offset.b x.offset.n x.offset.labels (size d x.offset.body) (size d x.offset.els))&&((m.ax.drop (j6+1)).all dD&&(m.tables.all cB&&(m.aD.all cB&&m.start.all idx))))):=aa (zY hxk HK.out);clear hx hxk h2 h3 HK;obtain ⟨g0,g1,g2,g3,⟨lv,g4,a4⟩,⟨bv,g5,a5⟩,⟨ev,g6,a6⟩⟩:=HI.out.offset;have k0:wr.cell? ⟨b,off+j6*8,none⟩=_:=g0;have k1:wr.cell? ⟨b,off+j6*8+1,none⟩=_:=g1;have k2:wr.cell? ⟨b,off+j6*8+2,none⟩=_:=g2;have k3:wr.cell? ⟨b,off+j6*8+3,none⟩=_:=g3;have k4:wr.cell? ⟨b,off+j6*8+4,none⟩=_:=g4;have k5:wr.cell? ⟨b,off+j6*8+5,none⟩=_:=g5;have k6:wr.cell? ⟨b,off+j6*8+6,none⟩=_:=g6;clear g0 g1 g2 g3 g4 g5 g6;obtain ⟨lo,lc,rfl⟩:=Row.len a4;obtain ⟨bo,bc,rfl⟩:=At.len d bv _ a5;obtain ⟨eo,ec,rfl⟩:=At.len d ev _ a6;have A4:=aa a4;clear a4 a5 a6;go_wp2_with fail;refine (GM x.offset.op x.offset.a x.offset.b x.offset.n x.offset.labels lo bo eo _ _ lc bc ec _ A4.out).mono ?_;rintro e u0 ⟨rfl,hb⟩;have HS:=aa (HS.out.on hb);have HI:=aa (HI.out.on hb);clear hb q9 k0 k1 k2 k3 k4 k5 k6;obtain ⟨q0,q1,q2,q3,q4,q5,q6,q7,q8,q9,qb⟩:=HS.out;clear qb q0 q1 q2 q3 q4 q5 q6 q7 q8;generalize (qf x.offset.op&&okF (form x.offset.op) x.offset.op x.offset.a x.offset.b x.offset.n x.offset.labels (size d x.offset.body) (size d x.offset.els))=t60 at *;cases t60 with
         | false =>
          obtain rfl:R=false:=HN.out;clear HN;go_wp2;go_ret;exact ⟨rfl,HS.out.aL⟩
         | true =>
          have dQ:Hid (R=((m.ax.drop (j6+1)).all dD&&(m.tables.all cB&&(m.aD.all cB&&m.start.all idx)))):=aa (by rw [HN.out];simp only [fN]);clear HN;go_wp2;go_roundw
          case rel=>exact ⟨j6+1,by omega,by go_num,dQ,HS⟩
          case measure=>simp [RowKit.intOf];omega
        obtain rfl:n9=j6:=by omega
        have HR:=aa (zZ (by omega) HK.out);clear HK;obtain ⟨q0,q1,q2,q3,q4,q5,q6,q7,q8,q9,qb⟩:=HS.out;clear qb;go_wp2_with fail;refine (MM _ m.tables _ (HM.out.on HS.out.aL).tables).mono ?_;rintro e u0 ⟨rfl,hu⟩;obtain rfl:wr=u0:=hu.symm;generalize m.tables.all cB=t1 at *;cases t1 with
        | false =>
         obtain rfl:R=false:=HR.out;clear HR;go_wp2;go_ret;exact ⟨rfl,HS.out.aL⟩
        | true =>
         go_wp2_with fail;refine (MM _ m.aD _ (HM.out.on HS.out.aL).aD).mono ?_;rintro e u0 ⟨rfl,hu⟩;obtain rfl:wr=u0:=hu.symm;generalize m.aD.all cB=t1 at *;cases t1 with
         | false =>
          obtain rfl:R=false:=HR.out;clear HR;go_wp2;go_ret;exact ⟨rfl,HS.out.aL⟩
         | true =>
          go_wp2_with fail;refine (vH _ m.start _ (HM.out.on HS.out.aL).start).mono ?_;rintro e u0 ⟨rfl,hu⟩;obtain rfl:wr=u0:=hu.symm;have HR2:Hid (R=m.start.all idx):=aa (by rw [HR.out];simp only [fN]);rw [<- HR2.out];clear HR HR2;go_wp2;go_ret;exact ⟨rfl,HS.out.aL⟩
namespace aA
theorem LP {a b:Int} (h:a=b):Ending.returned (.int .i64 a)=.returned (.int .i64 b):=by rw [h]
def cntF (d:Nat):List (gy d)->Nat->Nat
 | [],c=>c
 | f :: r,c=>if c<=65536 then cntF d r (cnt d f.body c) else c
theorem VN {d:Nat} {l:List (gy d)} {k c:Nat} (hk:¬ (k<l.length/\c<=65536)):cntF d (l.drop k) c=c:=by
 by_cases hl:k<l.length
 ·have hc:¬ c<=65536:=λhc=>hk ⟨hl,hc⟩;rw [lX hl];unfold cntF;rw [if_neg hc]
 rw [List.drop_of_length_le (by omega)];rfl
theorem VO {d:Nat} {l:List (gy d)} {k c:Nat} {x:gy d} (hx:l[k]?=some x) (hc:c<=65536):cntF d (l.drop k) c=cntF d (l.drop (k+1)) (cnt d x.body c):=by
 have hl:k<l.length:=(fZ.1 hx).1;have he:l[k]=x:=(fZ.1 hx).2;rw [lX hl,he]
 conv=>lhs;unfold cntF
 rw [if_pos hc]
end aA
theorem VP (d:Nat) (v0 v1 v2 v3 v4 v5 v6 v7 v8 v9:Value) (l:List (gy d)) (w:World) (hAt:Row 3 (jW w d) v2 l) (hT:zK v0 v1 v3 v4 v5 v6 v7 v8 v9) :
  Calls prog 51 #[.agg #[v0,v1,v2,v3,v4,v5,v6,v7,v8,v9]] w λe w'=>e=.returned (.int .i64 (min (cntF d l 0) 65537:Nat))/\Below w.heap.size w w':=by
 have hlen:=hAt.1;obtain ⟨o2,c2,hv⟩:=Row.len hAt;have HA:=ag hAt;subst hv;obtain ⟨⟨o0,m0,c0,rfl⟩,⟨o1,m1,c1,rfl⟩,⟨o3,m3,c3,rfl⟩,⟨o4,m4,c4,rfl⟩,⟨o5,m5,c5,rfl⟩,⟨o6,m6,c6,rfl⟩,⟨o7,m7,c7,rfl⟩,⟨o8,m8,c8,rfl⟩,⟨o9,m9,c9,rfl⟩⟩:=hT;have yz:=ag (dN.start w 32 (.slice o0 m0 c0) (.slice o1 m1 c1) (.slice o2 l.length c2) (.slice o3 m3 c3) (.slice o4 m4 c4) (.slice o5 m5 c5) (.slice o6 m6 c6) (.slice o7 m7 c7) (.slice o8 m8 c8) (.slice o9 m9 c9));obtain ⟨R,hR⟩:∃R,R=cntF d l 0:=⟨_,rfl⟩;rw [<- hR];have HR:Hid (R=cntF d (l.drop 0) 0):=hR;clear hAt hR;generalize hn:l.length=n at *;go_enter func51,ntmps51;go_wp2_with fail;go_loopw [3,4] (λu i wr=>∃k ck:Nat,k<=n/\ck<=65537/\u=.int .i64 ck/\i=.int .i64 k/\Hid (R=cntF d (l.drop k) ck)/\Hid (dN w (.slice o0 m0 c0) (.slice o1 m1 c1) (.slice o2 n c2) (.slice o3 m3 c3) (.slice o4 m4 c4) (.slice o5 m5 c5) (.slice o6 m6 c6) (.slice o7 m7 c7) (.slice o8 m8 c8) (.slice o9 m9 c9) wr)) (λ_ i _=>n-(RowKit.intOf i).toNat)
 case atStart=>exact ⟨0,0,by omega,by omega,rfl,rfl,HR,yz⟩
 case round =>
  obtain ⟨k,ck,hk,hck,rfl,rfl,HK,cg⟩:=hrel;have q2:=cg.out.c2;clear yz HR;by_cases hgo:k<n/\ck<=65536
  ·obtain ⟨b,off,mf,hv2,hx⟩:=Row.some (HA.out.imp λ_ _ _ _=>jW.on cg.out.aL) (by omega);injection hv2 with ho h2 h3;subst ho;obtain ⟨x,hxk⟩:∃x,l[k]?=some x:=⟨_,aY (by omega)⟩;obtain ⟨bv,kb,ab⟩:=(hx k x hxk).body;have HN:=ag (HK.out.trans (VO hxk hgo.2));have hle:=AR d x.body ck;have I1:=ag (LQ d bv x.body ck wr ab hck);clear hx hxk HK h2 h3 ab;generalize cnt d x.body ck=c1 at *;have hg1:k<n:=hgo.1;have hg2:ck<=65536:=hgo.2;have hd2:decide ((ck:Int)<=65536)=true:=by simp;omega
   clear hgo;go_wp2_with fail;refine I1.out.mono ?_;rintro e u ⟨rfl,mm,rfl⟩;have mq:=ag (cg.out.on (yd wr mm));clear q2 kb;go_wp2;go_roundw
   case rel=>exact ⟨k+1,c1,by omega,by omega,rfl,by go_num,HN,mq⟩
   case measure=>simp [RowKit.intOf];omega
  have HE:=ag (HK.out.trans (VN (by omega)));clear HK;by_cases hkn:k<n
  ·have hb:decide ((ck:Int)<=65536)=false:=by simp;omega
   go_wp2
   all_goals go_ret
   all_goals refine ⟨LP ?_,cg.out.aL⟩
   all_goals rw [HE.out]
   all_goals first|omega|(simp;omega)|trace_state
  go_wp2
  all_goals go_ret
  all_goals refine ⟨LP ?_,cg.out.aL⟩
  all_goals rw [HE.out]
  all_goals first|omega|(simp;omega)|trace_state
namespace aA
theorem vM {p:Prop} (h:p):Hid p:=h
def lab:(d:Nat)->IL d->Bool
 | 0,_=>false
 | d+1,l=>List.any (α:=Ins (IL d)) l λx=>decide (4096<x.labels.length) || lab d x.body || lab d x.els
def dp:(d:Nat)->IL d->Nat->Bool
 | 0,_,_=>false
 | d+1,l,at_=>(decide (0<List.length (α:=Ins (IL d)) l)&&decide (64<at_)) || List.any (α:=Ins (IL d)) l λx=>dp d x.body (at_+1) || dp d x.els (at_+1)
theorem K4 {α:Type} {p:α->Bool} {l:List α} {k:Nat} {r:Bool} (hk:¬ k<l.length) (h:r=(l.drop k).any p):r=false:=by
 rw [h,List.drop_of_length_le (by omega)];rfl
theorem K5 {α:Type} {p:α->Bool} {l:List α} {k:Nat} {r:Bool} {x:α} (hx:l[k]?=some x) (h:r=(l.drop k).any p):r=(p x || (l.drop (k+1)).any p):=by
 have hl:k<l.length:=(fZ.1 hx).1;have he:l[k]=x:=(fZ.1 hx).2;rw [h,lX hl,he,List.any_cons]
end aA
theorem K6 (o:Option Addr) (cap:Nat) (w:World) :
  Calls prog 52 #[.slice o 0 cap] w λe w'=>e=.returned (.bool false)/\w'=w:=by
 go_enter func52,ntmps52;go_wp2_with fail;go_loopw [3] (λi wr=>i=.int .i64 0/\wr=w) (λ_ _=>0)
 case atStart=>exact ⟨rfl,rfl⟩
 case round =>
  obtain ⟨rfl,rfl⟩:=hrel;go_wp2;go_ret;exact ⟨rfl,rfl⟩
def K7 (d:Nat):Prop:=∀(v:Value) (l:IL d) (w:World),At w d v l ->
  Calls prog 52 #[v] w λe w'=>e=.returned (.bool (lab d l))/\w'=w
theorem U2 (d:Nat) (IH:K7 d) (v:Value) (l:List (Ins (IL d))) (w:World) (hAt:Row 7 (fA w (At w d)) v l) :
  Calls prog 52 #[v] w λe w'=>e=.returned (.bool (l.any λx=>decide (4096<x.labels.length) || lab d x.body || lab d x.els))/\w'=w:=by
 have hlen:=hAt.1;by_cases hz:l.length=0
 ·obtain ⟨o,cap,rfl⟩:=hAt.len;rw [hz];obtain rfl:l = []:=mM.1 hz;exact K6 o cap w
 obtain ⟨b,off,cap,rfl,hx⟩:=hAt.some (by omega);obtain ⟨R,hR⟩:∃R,R=l.any λx=>decide (4096<x.labels.length) || lab d x.body || lab d x.els:=⟨_,rfl⟩;rw [<- hR];have HR:Hid (R=(l.drop 0).any λx=>decide (4096<x.labels.length) || lab d x.body || lab d x.els):=hR;have HX:=vM hx;clear hx hAt hR;generalize hn:l.length=n at *;go_enter func52,ntmps52;go_wp2_with fail;go_loopw [3] (λi wr=>∃k:Nat,k<=n/\i=.int .i64 k/\R=((l.drop k).any λx=>decide (4096<x.labels.length) || lab d x.body || lab d x.els)/\wr=w) (λi _=>n-(RowKit.intOf i).toNat)
 case atStart=>exact ⟨0,by omega,rfl,HR.out,rfl⟩
 case round =>
  obtain ⟨k,hk,rfl,hrr,rfl⟩:=hrel;have HK:=vM hrr;clear hrr;by_cases hgo:k<n
  ·obtain ⟨x,hxk⟩:∃x,l[k]?=some x:=⟨_,aY (by omega)⟩;have hI:=HX.out k x hxk;obtain ⟨vl,cl,al⟩:=hI.labels;obtain ⟨ol,aaT,rfl⟩:=al.len;obtain ⟨vb,cb,ab⟩:=hI.body;obtain ⟨ve,ce,ae⟩:=hI.els;have HN:=K5 hxk HK.out;have i1:=vM (IH vb x.body wr ab);have i2:=vM (IH ve x.els wr ae);have hll:=al.1;clear hI hxk ab ae HK al;generalize x.labels.length=nl at *;by_cases h1:4096<nl
   ·have hfin:R=true:=by rw [HN,aC h1];rfl
    clear HN;go_wp2;go_ret;exact ⟨rfl,rfl⟩
   rw [au h1,Bool.false_or] at HN;generalize lab d x.body=r1 at *;generalize lab d x.els=r2 at *;have lQ:=vM HN;clear HN;go_wp2_with fail;refine i1.out.mono ?_;rintro e w1 ⟨rfl,rfl⟩;cases r1
   ·go_wp2_with fail;refine i2.out.mono ?_;rintro e w1 ⟨rfl,rfl⟩;cases r2
    ·go_wp2;go_roundw
     case rel=>exact ⟨k+1,by omega,by go_num,by rw [lQ.out];rfl,trivial⟩
     case measure=>simp [RowKit.intOf];omega
    have hfin:R=true:=by rw [lQ.out];rfl
    go_wp2;go_ret;exact ⟨by rw [hfin];rfl,rfl⟩
   have hfin:R=true:=by rw [lQ.out];rfl
   go_wp2;go_ret;exact ⟨by rw [hfin];rfl,rfl⟩
  have HE:=K4 (by omega) HK.out;clear HK;go_wp2;go_ret;exact ⟨by rw [HE];rfl,rfl⟩
theorem K8:∀(d:Nat),K7 d
 | 0=>λv l w ⟨o,cap,hv⟩=>by
  subst hv;exact K6 o cap w
 | d+1=>λv l w hAt=>U2 d (K8 d) v l w hAt
theorem K9 (o:Option Addr) (cap at_:Nat) (w:World) :
  Calls prog 53 #[.slice o 0 cap,.int .i64 at_] w λe w'=>e=.returned (.bool false)/\w'=w:=by
 go_enter func53,ntmps53;go_wp2_with fail;go_loopw [5] (λi wr=>i=.int .i64 0/\wr=w) (λ_ _=>0)
 case atStart=>exact ⟨rfl,rfl⟩
 case round =>
  obtain ⟨rfl,rfl⟩:=hrel;go_wp2;go_ret;exact ⟨rfl,rfl⟩
def La (d:Nat):Prop:=∀(v:Value) (l:IL d) (at_:Nat) (w:World),At w d v l->at_<=65 ->
  Calls prog 53 #[v,.int .i64 at_] w λe w'=>e=.returned (.bool (dp d l at_))/\w'=w
theorem U3 (d:Nat) (IH:La d) (v:Value) (l:List (Ins (IL d))) (at_:Nat) (w:World) (hAt:Row 7 (fA w (At w d)) v l) (ha:at_<=65) :
  Calls prog 53 #[v,.int .i64 at_] w λe w'=>e=.returned (.bool ((decide (0<l.length)&&decide (64<at_)) || l.any λx=>dp d x.body (at_+1) || dp d x.els (at_+1)))/\w'=w:=by
 have hlen:=hAt.1;by_cases hz:l.length=0
 ·obtain ⟨o,cap,rfl⟩:=hAt.len;rw [hz];obtain rfl:l = []:=mM.1 hz;exact K9 o cap at_ w
 obtain ⟨b,off,cap,rfl,hx⟩:=hAt.some (by omega);have hpos:decide (0<l.length)=true:=by simp;omega
 rw [hpos,fN];by_cases h64:64<at_
 ·rw [aC h64,Bool.true_or];clear hx hAt hpos;generalize l.length=n at *;go_enter func53,ntmps53;go_wp2;go_ret;exact ⟨rfl,rfl⟩
 rw [au h64,Bool.false_or];obtain ⟨R,hR⟩:∃R,R=l.any λx=>dp d x.body (at_+1) || dp d x.els (at_+1):=⟨_,rfl⟩;rw [<- hR];have HR:Hid (R=(l.drop 0).any λx=>dp d x.body (at_+1) || dp d x.els (at_+1)):=hR;have HX:=vM hx;clear hx hAt hR hpos;have e1:((at_+1:Nat):Int)=(at_:Int)+1:=by omega
 generalize hn:l.length=n at *;go_enter func53,ntmps53;go_wp2_with fail;go_loopw [5] (λi wr=>∃k:Nat,k<=n/\i=.int .i64 k/\R=((l.drop k).any λx=>dp d x.body (at_+1) || dp d x.els (at_+1))/\wr=w) (λi _=>n-(RowKit.intOf i).toNat)
 case atStart=>exact ⟨0,by omega,rfl,HR.out,rfl⟩
 case round =>
  obtain ⟨k,hk,rfl,hrr,rfl⟩:=hrel;have HK:=vM hrr;clear hrr;by_cases hgo:k<n
  ·obtain ⟨x,hxk⟩:∃x,l[k]?=some x:=⟨_,aY (by omega)⟩;have hI:=HX.out k x hxk;obtain ⟨vb,cb,ab⟩:=hI.body;obtain ⟨ve,ce,ae⟩:=hI.els;have HN:=K5 hxk HK.out;have j1:=IH vb x.body (at_+1) wr ab (by omega);have j2:=IH ve x.els (at_+1) wr ae (by omega);rw [e1] at j1 j2;have i1:=vM j1;have i2:=vM j2;clear hI hxk ab ae HK j1 j2 e1;generalize dp d x.body (at_+1)=r1 at *;generalize dp d x.els (at_+1)=r2 at *;have lQ:=vM HN;clear HN;go_wp2_with fail;refine i1.out.mono ?_;rintro e w1 ⟨rfl,rfl⟩;cases r1
   ·go_wp2_with fail;refine i2.out.mono ?_;rintro e w1 ⟨rfl,rfl⟩;cases r2
    ·go_wp2;go_roundw
     case rel=>exact ⟨k+1,by omega,by go_num,by rw [lQ.out];rfl,trivial⟩
     case measure=>simp [RowKit.intOf];omega
    have hfin:R=true:=by rw [lQ.out];rfl
    go_wp2;go_ret;exact ⟨by rw [hfin];rfl,rfl⟩
   have hfin:R=true:=by rw [lQ.out];rfl
   go_wp2;go_ret;exact ⟨by rw [hfin];rfl,rfl⟩
  have HE:=K4 (by omega) HK.out;clear HK;go_wp2;go_ret;exact ⟨by rw [HE];rfl,rfl⟩
theorem Lc:∀(d:Nat),La d
 | 0=>λv l at_ w ⟨o,cap,hv⟩ _=>by
  subst hv;exact K9 o cap at_ w
 | d+1=>λv l at_ w hAt ha=>U3 d (Lc d) v l at_ w hAt ha
end Go.Proofs.YtmfcojpjpgldhaaGreatDoor
