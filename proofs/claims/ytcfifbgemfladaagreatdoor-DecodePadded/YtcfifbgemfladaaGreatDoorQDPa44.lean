/- Texts that the claim needs. -/
import Derived.Test.YtcfifbgemfladaaGreatDoorQDPa40
import Derived.Test.YtcfifbgemfladaaGreatDoorQDPa42
import Derived.Test.YtcfifbgemfladaaGreatDoorQDPa43
import Derived.Test.YtcfifbgemfladaaGreatDoorQDPa7
import Derived.Test.YtcfifbgemfladaaGreatDoorQDPa2
import Derived.Test.YtcfifbgemfladaaGreatDoorQDPa6
import Derived.Test.YtcfifbgemfladaaGreatDoorQDPa0
namespace Go.Proofs.YtcfifbgemfladaaGreatDoor
open Go.RowKit au Go.Proofs.Tryz
set_option linter.unusedVariables false
set_option maxRecDepth 100000
set_option maxHeartbeats 8000000
namespace au
def dT (t:FT):Bool:=t.params.all typ&&t.results.all typ
def dI (i:oG):Bool:=idx i.type&&(uM i.mod&&uM i.name)
def dF {d:Nat} (f:fF d):Bool:=idx f.type&&(f.locals.all typ&&mq d f.body)
def dC {d:Nat} (x:Ins (IL d)):Bool:=rG x.op&&okF (form x.op) x.op x.a x.b x.n x.labels (size d x.body) (size d x.els)
def dG {d:Nat} (g:mZ d):Bool:=[g.type].all typ&&dC g.init
def dE (e:oH):Bool:=uM e.name&&(decide (0<=e.kind/\e.kind<=3)&&idx e.index)
def dL {d:Nat} (e:lX d):Bool:=dC e.offset&&e.funcs.all idx
def dD {d:Nat} (x:Dat d):Bool:=dC x.offset
def Cq {d:Nat} (m:Mod d):Bool :=
 m.types.all dT&&(m.imports.all dI&&(m.funcs.all dF&&(m.globals.all dG&&(m.exports.all dE&&(m.elems.all dL&&(m.aA.all dD&&(m.tables.all cu&&(m.aF.all cu&&m.start.all idx))))))))
theorem Bz {α:Type} {p:α->Bool} {l:List α} {j:Nat} {x:α} {R T:Bool} (hx:l[j]?=some x) (h:R=((l.drop j).all p&&T)):R=(p x&&((l.drop (j+1)).all p&&T)):=by
 rw [h,RH hx rfl,yh]
theorem BA {α:Type} {p:α->Bool} {l:List α} {j:Nat} {R T:Bool} (hj:l.length<=j) (h:R=((l.drop j).all p&&T)):R=T:=by
 rw [h,List.drop_of_length_le hj];rfl
end au
theorem abr (d:Nat) (v0 v1 v2 v3 v4 v5 v6 v7 v8 v9:Value) (m:Mod d) (w:AG) (hM:iG w d v0 v1 v2 v3 v4 v5 v6 v7 v8 v9 m) (hX:BO m) :
  Calls prog 35 #[.agg #[v0,v1,v2,v3,v4,v5,v6,v7,v8,v9]] w λe w'=>e=.returned (.bool (Cq m))/\AS w w':=by
 have l0:=hM.types.1;have l1:=hM.imports.1;have l2:=hM.funcs.1;have l3:=hM.tables.1;have l4:=hM.aF.1;have l5:=hM.globals.1;have l6:=hM.exports.1;have l7:=hM.start.1;have l8:=hM.elems.1;have l9:=hM.aA.1;have HM:=aa hM;have HX:=aa hX;obtain ⟨o0,c0,rfl⟩:=Row.len hM.types;obtain ⟨o1,c1,rfl⟩:=Row.len hM.imports;obtain ⟨o2,c2,rfl⟩:=Row.len hM.funcs;obtain ⟨o3,c3,rfl⟩:=Row.len hM.tables;obtain ⟨o4,c4,rfl⟩:=Row.len hM.aF;obtain ⟨o5,c5,rfl⟩:=Row.len hM.globals;obtain ⟨o6,c6,rfl⟩:=Row.len hM.exports;obtain ⟨o7,c7,rfl⟩:=Row.len hM.start;obtain ⟨o8,c8,rfl⟩:=Row.len hM.elems;obtain ⟨o9,c9,rfl⟩:=Row.len hM.aA;have HS:=aa (jC.start w 32 (.slice o0 m.types.length c0) (.slice o1 m.imports.length c1) (.slice o2 m.funcs.length c2) (.slice o3 m.tables.length c3) (.slice o4 m.aF.length c4) (.slice o5 m.globals.length c5) (.slice o6 m.exports.length c6) (.slice o7 m.start.length c7) (.slice o8 m.elems.length c8) (.slice o9 m.aA.length c9));obtain ⟨R,hR⟩:∃R,R=Cq m:=⟨_,rfl⟩;rw [<- hR];have HR:Hid (R=((m.types.drop 0).all dT&&(m.imports.all dI&&(m.funcs.all dF&&(m.globals.all dG&&(m.exports.all dE&&(m.elems.all dL&&(m.aA.all dD&&(m.tables.all cu&&(m.aF.all cu&&m.start.all idx)))))))))):=hR;clear hM hX hR;generalize hn0:m.types.length=n0 at *;generalize ju:m.imports.length=n1 at *;generalize fV:m.funcs.length=n2 at *;generalize lW:m.tables.length=n3 at *;generalize jQ:m.aF.length=n4 at *;generalize lK:m.globals.length=n5 at *;generalize lL:m.exports.length=n6 at *;generalize jd:m.start.length=n7 at *;generalize lh:m.elems.length=n8 at *;generalize lM:m.aA.length=n9 at *;go_enter func35,ntmps35;go_upto_region 1 with fail;obtain ⟨wb,hwb⟩:∃wb,wb=w.alloc (.cells #[.slice o0 n0 c0,.slice o1 n1 c1,.slice o2 n2 c2,.slice o3 n3 c3,.slice o4 n4 c4,.slice o5 n5 c5,.slice o6 n6 c6,.slice o7 n7 c7,.slice o8 n8 c8,.slice o9 n9 c9] 32):=⟨_,rfl⟩;rw [<- hwb] at HS ⊢;clear hwb;obtain ⟨q0,q1,q2,q3,q4,q5,q6,q7,q8,q9,qb⟩:=HS.out;clear qb;go_wp2_with fail;go_loopw [3] (λi wr=>∃j:Nat,j<=n0/\i=.int .i64 j/\Hid (R=((m.types.drop j).all dT&&(m.imports.all dI&&(m.funcs.all dF&&(m.globals.all dG&&(m.exports.all dE&&(m.elems.all dL&&(m.aA.all dD&&(m.tables.all cu&&(m.aF.all cu&&m.start.all idx))))))))))/\Hid (jC w (.slice o0 n0 c0) (.slice o1 n1 c1) (.slice o2 n2 c2) (.slice o3 n3 c3) (.slice o4 n4 c4) (.slice o5 n5 c5) (.slice o6 n6 c6) (.slice o7 n7 c7) (.slice o8 n8 c8) (.slice o9 n9 c9) wr)) (λi _=>n0-(RowKit.intOf i).toNat)
 case atStart=>exact ⟨0,by omega,rfl,HR,HS⟩
 case round =>
  obtain ⟨j0,hj,rfl,HK,HS⟩:=hrel;by_cases hgo:j0<n0
  ·obtain ⟨q0,q1,q2,q3,q4,q5,q6,q7,q8,q9,qb⟩:=HS.out;clear qb q1 q2 q3 q4 q5 q6 q7 q8 q9;obtain ⟨b,off,cap2,hv2,hx⟩:=Row.some ((HM.out.on HS.out.bQ).types) (by omega);injection hv2 with ho h2 h3;subst ho;obtain ⟨x,hxk⟩:∃x,m.types[j0]?=some x:=⟨_,bG (by omega)⟩;have HI:=aa (hx j0 x hxk);have HN:Hid (R=((x.params.all typ&&x.results.all typ)&&((m.types.drop (j0+1)).all dT&&(m.imports.all dI&&(m.funcs.all dF&&(m.globals.all dG&&(m.exports.all dE&&(m.elems.all dL&&(m.aA.all dD&&(m.tables.all cu&&(m.aF.all cu&&m.start.all idx))))))))))):=aa (Bz hxk HK.out);clear hx hxk h2 h3 HK;obtain ⟨vp,k0,ip⟩:=HI.out.params;obtain ⟨op,cp,rfl⟩:=Row.len ip;have IP:=aa ip;clear ip;go_wp2_with fail;refine (Hl _ x.params _ IP.out).mono ?_;rintro e u0 ⟨rfl,hu⟩;obtain rfl:wr=u0:=hu.symm;generalize x.params.all typ=t00 at *;cases t00 with
   | false =>
    obtain rfl:R=false:=HN.out;clear HN;go_wp2;go_ret;exact ⟨rfl,HS.out.bQ⟩
   | true =>
    obtain ⟨vr,k1,ir⟩:=HI.out.results;obtain ⟨or,cr,rfl⟩:=Row.len ir;have IR:=aa ir;clear ir;go_wp2_with fail;refine (Hl _ x.results _ IR.out).mono ?_;rintro e u1 ⟨rfl,hu⟩;obtain rfl:wr=u1:=hu.symm;generalize x.results.all typ=t01 at *;cases t01 with
    | false =>
     obtain rfl:R=false:=HN.out;clear HN;go_wp2;go_ret;exact ⟨rfl,HS.out.bQ⟩
    | true =>
     have cH:Hid (R=((m.types.drop (j0+1)).all dT&&(m.imports.all dI&&(m.funcs.all dF&&(m.globals.all dG&&(m.exports.all dE&&(m.elems.all dL&&(m.aA.all dD&&(m.tables.all cu&&(m.aF.all cu&&m.start.all idx)))))))))):=aa (by rw [HN.out];simp only [jk]);clear HN;go_wp2;go_roundw
     case rel=>exact ⟨j0+1,by omega,by go_num,cH,HS⟩
     case measure=>simp [RowKit.intOf];omega
  obtain rfl:n0=j0:=by omega
  have HR:=aa (BA (by omega) HK.out);clear HK;obtain ⟨q0,q1,q2,q3,q4,q5,q6,q7,q8,q9,qb⟩:=HS.out;clear qb;go_wp2_with fail;go_loopw [4] (λi wr=>∃j:Nat,j<=n1/\i=.int .i64 j/\Hid (R=((m.imports.drop j).all dI&&(m.funcs.all dF&&(m.globals.all dG&&(m.exports.all dE&&(m.elems.all dL&&(m.aA.all dD&&(m.tables.all cu&&(m.aF.all cu&&m.start.all idx)))))))))/\Hid (jC w (.slice o0 n0 c0) (.slice o1 n1 c1) (.slice o2 n2 c2) (.slice o3 n3 c3) (.slice o4 n4 c4) (.slice o5 n5 c5) (.slice o6 n6 c6) (.slice o7 n7 c7) (.slice o8 n8 c8) (.slice o9 n9 c9) wr)) (λi _=>n1-(RowKit.intOf i).toNat)
  case atStart=>exact ⟨0,by omega,rfl,HR,HS⟩
  case round =>
   obtain ⟨j1,hj,rfl,HK,HS⟩:=hrel;by_cases hgo:j1<n1
   ·obtain ⟨q0,q1,q2,q3,q4,q5,q6,q7,q8,q9,qb⟩:=HS.out;clear qb q0 q2 q3 q4 q5 q6 q7 q8 q9;obtain ⟨b,off,cap2,hv2,hx⟩:=Row.some ((HM.out.on HS.out.bQ).imports) (by omega);injection hv2 with ho h2 h3;subst ho;obtain ⟨x,hxk⟩:∃x,m.imports[j1]?=some x:=⟨_,bG (by omega)⟩;have HI:=aa (hx j1 x hxk);have hz:=HX.out.imports x (iF hxk);have HN:Hid (R=((idx x.type&&(uM x.mod&&uM x.name))&&((m.imports.drop (j1+1)).all dI&&(m.funcs.all dF&&(m.globals.all dG&&(m.exports.all dE&&(m.elems.all dL&&(m.aA.all dD&&(m.tables.all cu&&(m.aF.all cu&&m.start.all idx)))))))))):=aa (Bz hxk HK.out);clear hx hxk h2 h3 HK;have k2:=HI.out.type;go_wp2_with fail;refine (mf _ _).mono ?_;rintro e u0 ⟨rfl,hu⟩;obtain rfl:wr=u0:=hu.symm;generalize idx x.type=t10 at *;cases t10 with
    | false =>
     obtain rfl:R=false:=HN.out;clear HN;go_wp2;go_ret;exact ⟨rfl,HS.out.bQ⟩
    | true =>
     have k0:=HI.out.mod;go_wp2_with fail;refine (Kk _ _ hz.1).mono ?_;rintro e u1 ⟨rfl,hu⟩;obtain rfl:wr=u1:=hu.symm;generalize uM x.mod=t11 at *;cases t11 with
     | false =>
      obtain rfl:R=false:=HN.out;clear HN;go_wp2;go_ret;exact ⟨rfl,HS.out.bQ⟩
     | true =>
      have k1:=HI.out.name;go_wp2_with fail;refine (Kk _ _ hz.2).mono ?_;rintro e u2 ⟨rfl,hu⟩;obtain rfl:wr=u2:=hu.symm;generalize uM x.name=t12 at *;cases t12 with
      | false =>
       obtain rfl:R=false:=HN.out;clear HN;go_wp2;go_ret;exact ⟨rfl,HS.out.bQ⟩
      | true =>
       have cH:Hid (R=((m.imports.drop (j1+1)).all dI&&(m.funcs.all dF&&(m.globals.all dG&&(m.exports.all dE&&(m.elems.all dL&&(m.aA.all dD&&(m.tables.all cu&&(m.aF.all cu&&m.start.all idx))))))))):=aa (by rw [HN.out];simp only [jk]);clear HN;go_wp2;go_roundw
       case rel=>exact ⟨j1+1,by omega,by go_num,cH,HS⟩
       case measure=>simp [RowKit.intOf];omega
   obtain rfl:n1=j1:=by omega
   have HR:=aa (BA (by omega) HK.out);clear HK;obtain ⟨q0,q1,q2,q3,q4,q5,q6,q7,q8,q9,qb⟩:=HS.out;clear qb;go_wp2_with fail;go_loopw [5] (λi wr=>∃j:Nat,j<=n2/\i=.int .i64 j/\Hid (R=((m.funcs.drop j).all dF&&(m.globals.all dG&&(m.exports.all dE&&(m.elems.all dL&&(m.aA.all dD&&(m.tables.all cu&&(m.aF.all cu&&m.start.all idx))))))))/\Hid (jC w (.slice o0 n0 c0) (.slice o1 n1 c1) (.slice o2 n2 c2) (.slice o3 n3 c3) (.slice o4 n4 c4) (.slice o5 n5 c5) (.slice o6 n6 c6) (.slice o7 n7 c7) (.slice o8 n8 c8) (.slice o9 n9 c9) wr)) (λi _=>n2-(RowKit.intOf i).toNat)
   case atStart=>exact ⟨0,by omega,rfl,HR,HS⟩
   case round =>
    obtain ⟨j2,hj,rfl,HK,HS⟩:=hrel;by_cases hgo:j2<n2
    ·obtain ⟨q0,q1,q2,q3,q4,q5,q6,q7,q8,q9,qb⟩:=HS.out;clear qb q0 q1 q3 q4 q5 q6 q7 q8 q9;obtain ⟨b,off,cap2,hv2,hx⟩:=Row.some ((HM.out.on HS.out.bQ).funcs) (by omega);injection hv2 with ho h2 h3;subst ho;obtain ⟨x,hxk⟩:∃x,m.funcs[j2]?=some x:=⟨_,bG (by omega)⟩;have HI:=aa (hx j2 x hxk);have HN:Hid (R=((idx x.type&&(x.locals.all typ&&mq d x.body))&&((m.funcs.drop (j2+1)).all dF&&(m.globals.all dG&&(m.exports.all dE&&(m.elems.all dL&&(m.aA.all dD&&(m.tables.all cu&&(m.aF.all cu&&m.start.all idx))))))))):=aa (Bz hxk HK.out);clear hx hxk h2 h3 HK;have k0:=HI.out.type;go_wp2_with fail;refine (mf _ _).mono ?_;rintro e u0 ⟨rfl,hu⟩;obtain rfl:wr=u0:=hu.symm;generalize idx x.type=t20 at *;cases t20 with
     | false =>
      obtain rfl:R=false:=HN.out;clear HN;go_wp2;go_ret;exact ⟨rfl,HS.out.bQ⟩
     | true =>
      obtain ⟨vp,k1,ip⟩:=HI.out.locals;obtain ⟨op,cp,rfl⟩:=Row.len ip;have IP:=aa ip;clear ip;go_wp2_with fail;refine (Hl _ x.locals _ IP.out).mono ?_;rintro e u1 ⟨rfl,hu⟩;obtain rfl:wr=u1:=hu.symm;generalize x.locals.all typ=t21 at *;cases t21 with
      | false =>
       obtain rfl:R=false:=HN.out;clear HN;go_wp2;go_ret;exact ⟨rfl,HS.out.bQ⟩
      | true =>
       obtain ⟨vb,k2,ab⟩:=HI.out.body;obtain ⟨ob,cb,rfl⟩:=At.len d vb _ ab;have AB:=aa ab;clear ab;go_wp2_with fail;refine (Pp d _ x.body _ AB.out).mono ?_;rintro e u2 ⟨rfl,hb⟩;have HS:=aa (HS.out.on hb);have HI:=aa (HI.out.on hb);clear hb q2 k2;obtain ⟨q0,q1,q2,q3,q4,q5,q6,q7,q8,q9,qb⟩:=HS.out;clear qb q0 q1 q3 q4 q5 q6 q7 q8 q9;generalize mq d x.body=t22 at *;cases t22 with
       | false =>
        obtain rfl:R=false:=HN.out;clear HN;go_wp2;go_ret;exact ⟨rfl,HS.out.bQ⟩
       | true =>
        have cH:Hid (R=((m.funcs.drop (j2+1)).all dF&&(m.globals.all dG&&(m.exports.all dE&&(m.elems.all dL&&(m.aA.all dD&&(m.tables.all cu&&(m.aF.all cu&&m.start.all idx)))))))):=aa (by rw [HN.out];simp only [jk]);clear HN;go_wp2;go_roundw
        case rel=>exact ⟨j2+1,by omega,by go_num,cH,HS⟩
        case measure=>simp [RowKit.intOf];omega
    obtain rfl:n2=j2:=by omega
    have HR:=aa (BA (by omega) HK.out);clear HK;obtain ⟨q0,q1,q2,q3,q4,q5,q6,q7,q8,q9,qb⟩:=HS.out;clear qb;go_wp2_with fail;go_loopw [6] (λi wr=>∃j:Nat,j<=n5/\i=.int .i64 j/\Hid (R=((m.globals.drop j).all dG&&(m.exports.all dE&&(m.elems.all dL&&(m.aA.all dD&&(m.tables.all cu&&(m.aF.all cu&&m.start.all idx)))))))/\Hid (jC w (.slice o0 n0 c0) (.slice o1 n1 c1) (.slice o2 n2 c2) (.slice o3 n3 c3) (.slice o4 n4 c4) (.slice o5 n5 c5) (.slice o6 n6 c6) (.slice o7 n7 c7) (.slice o8 n8 c8) (.slice o9 n9 c9) wr)) (λi _=>n5-(RowKit.intOf i).toNat)
    case atStart=>exact ⟨0,by omega,rfl,HR,HS⟩
    case round =>
     obtain ⟨j3,hj,rfl,HK,HS⟩:=hrel;by_cases hgo:j3<n5
     ·obtain ⟨q0,q1,q2,q3,q4,q5,q6,q7,q8,q9,qb⟩:=HS.out;clear qb q0 q1 q2 q3 q4 q6 q7 q8 q9;obtain ⟨b,off,cap2,hv2,hx⟩:=Row.some ((HM.out.on HS.out.bQ).globals) (by omega);injection hv2 with ho h2 h3;subst ho;obtain ⟨x,hxk⟩:∃x,m.globals[j3]?=some x:=⟨_,bG (by omega)⟩;have HI:=aa (hx j3 x hxk);have HN:Hid (R=(([x.type].all typ&&(rG x.init.op&&okF (form x.init.op) x.init.op x.init.a x.init.b x.init.n x.init.labels (size d x.init.body) (size d x.init.els)))&&((m.globals.drop (j3+1)).all dG&&(m.exports.all dE&&(m.elems.all dL&&(m.aA.all dD&&(m.tables.all cu&&(m.aF.all cu&&m.start.all idx)))))))):=aa (Bz hxk HK.out);clear hx hxk h2 h3 HK;have k0:=HI.out.type;go_wp2_with fail;refine (Hl _ [x.type] _ (acO _ _ _ _ [x.type] (by simp) (by simp))).mono ?_;rintro e u0 ⟨rfl,hu⟩;have hb:=Zg hu;clear hu;have HS:=aa (HS.out.on hb);have HI:=aa (HI.out.on hb);clear hb q5 k0;obtain ⟨q0,q1,q2,q3,q4,q5,q6,q7,q8,q9,qb⟩:=HS.out;clear qb q0 q1 q2 q3 q4 q6 q7 q8 q9;generalize [x.type].all typ=t30 at *;cases t30 with
      | false =>
       obtain rfl:R=false:=HN.out;clear HN;go_wp2;go_ret;exact ⟨rfl,HS.out.bQ⟩
      | true =>
       obtain ⟨g0,g1,g2,g3,⟨lv,g4,a4⟩,⟨bv,g5,a5⟩,⟨ev,g6,a6⟩⟩:=HI.out.init;have k2:u0.cell? ⟨b,off+j3*9+2,none⟩=_:=g0;have k3:u0.cell? ⟨b,off+j3*9+3,none⟩=_:=g1;have k4:u0.cell? ⟨b,off+j3*9+4,none⟩=_:=g2;have k5:u0.cell? ⟨b,off+j3*9+5,none⟩=_:=g3;have k6:u0.cell? ⟨b,off+j3*9+6,none⟩=_:=g4;have k7:u0.cell? ⟨b,off+j3*9+7,none⟩=_:=g5;have k8:u0.cell? ⟨b,off+j3*9+8,none⟩=_:=g6;clear g0 g1 g2 g3 g4 g5 g6;obtain ⟨lo,lc,rfl⟩:=Row.len a4;obtain ⟨bo,bc,rfl⟩:=At.len d bv _ a5;obtain ⟨eo,ec,rfl⟩:=At.len d ev _ a6;have A4:=aa a4;clear a4 a5 a6;go_wp2_with fail;refine (J7 x.init.op x.init.a x.init.b x.init.n x.init.labels lo bo eo _ _ lc bc ec _ A4.out).mono ?_;rintro e u1 ⟨rfl,hb⟩;have HS:=aa (HS.out.on hb);have HI:=aa (HI.out.on hb);clear hb q5 k2 k3 k4 k5 k6 k7 k8;obtain ⟨q0,q1,q2,q3,q4,q5,q6,q7,q8,q9,qb⟩:=HS.out;clear qb q0 q1 q2 q3 q4 q6 q7 q8 q9;generalize (rG x.init.op&&okF (form x.init.op) x.init.op x.init.a x.init.b x.init.n x.init.labels (size d x.init.body) (size d x.init.els))=t31 at *;cases t31 with
       | false =>
        obtain rfl:R=false:=HN.out;clear HN;go_wp2;go_ret;exact ⟨rfl,HS.out.bQ⟩
       | true =>
        have cH:Hid (R=((m.globals.drop (j3+1)).all dG&&(m.exports.all dE&&(m.elems.all dL&&(m.aA.all dD&&(m.tables.all cu&&(m.aF.all cu&&m.start.all idx))))))):=aa (by rw [HN.out];simp only [jk]);clear HN;go_wp2;go_roundw
        case rel=>exact ⟨j3+1,by omega,by go_num,cH,HS⟩
        case measure=>simp [RowKit.intOf];omega
     obtain rfl:n5=j3:=by omega
     have HR:=aa (BA (by omega) HK.out);clear HK;obtain ⟨q0,q1,q2,q3,q4,q5,q6,q7,q8,q9,qb⟩:=HS.out;clear qb;go_wp2_with fail;go_loopw [7] (λi wr=>∃j:Nat,j<=n6/\i=.int .i64 j/\Hid (R=((m.exports.drop j).all dE&&(m.elems.all dL&&(m.aA.all dD&&(m.tables.all cu&&(m.aF.all cu&&m.start.all idx))))))/\Hid (jC w (.slice o0 n0 c0) (.slice o1 n1 c1) (.slice o2 n2 c2) (.slice o3 n3 c3) (.slice o4 n4 c4) (.slice o5 n5 c5) (.slice o6 n6 c6) (.slice o7 n7 c7) (.slice o8 n8 c8) (.slice o9 n9 c9) wr)) (λi _=>n6-(RowKit.intOf i).toNat)
     case atStart=>exact ⟨0,by omega,rfl,HR,HS⟩
     case round =>
      obtain ⟨j4,hj,rfl,HK,HS⟩:=hrel;by_cases hgo:j4<n6
      ·obtain ⟨q0,q1,q2,q3,q4,q5,q6,q7,q8,q9,qb⟩:=HS.out;clear qb q0 q1 q2 q3 q4 q5 q7 q8 q9;obtain ⟨b,off,cap2,hv2,hx⟩:=Row.some ((HM.out.on HS.out.bQ).exports) (by omega);injection hv2 with ho h2 h3;subst ho;obtain ⟨x,hxk⟩:∃x,m.exports[j4]?=some x:=⟨_,bG (by omega)⟩;have HI:=aa (hx j4 x hxk);have hz:=HX.out.exports x (iF hxk);have HN:Hid (R=((uM x.name&&(decide (0<=x.kind/\x.kind<=3)&&idx x.index))&&((m.exports.drop (j4+1)).all dE&&(m.elems.all dL&&(m.aA.all dD&&(m.tables.all cu&&(m.aF.all cu&&m.start.all idx))))))):=aa (Bz hxk HK.out);clear hx hxk h2 h3 HK;have k0:=HI.out.name;go_wp2_with fail;refine (Kk _ _ hz).mono ?_;rintro e u0 ⟨rfl,hu⟩;obtain rfl:wr=u0:=hu.symm;generalize uM x.name=t40 at *;cases t40 with
       | false =>
        obtain rfl:R=false:=HN.out;clear HN;go_wp2;go_ret;exact ⟨rfl,HS.out.bQ⟩
       | true =>
        have k1:=HI.out.kind;go_wp2_with fail;refine (aX _ _ _ _).mono ?_;rintro e u1 ⟨rfl,hu⟩;obtain rfl:wr=u1:=hu.symm;generalize decide (0<=x.kind/\x.kind<=3)=t41 at *;cases t41 with
        | false =>
         obtain rfl:R=false:=HN.out;clear HN;go_wp2;go_ret;exact ⟨rfl,HS.out.bQ⟩
        | true =>
         have k2:=HI.out.index;go_wp2_with fail;refine (mf _ _).mono ?_;rintro e u2 ⟨rfl,hu⟩;obtain rfl:wr=u2:=hu.symm;generalize idx x.index=t42 at *;cases t42 with
         | false =>
          obtain rfl:R=false:=HN.out;clear HN;go_wp2;go_ret;exact ⟨rfl,HS.out.bQ⟩
         | true =>
          have cH:Hid (R=((m.exports.drop (j4+1)).all dE&&(m.elems.all dL&&(m.aA.all dD&&(m.tables.all cu&&(m.aF.all cu&&m.start.all idx)))))):=aa (by rw [HN.out];simp only [jk]);clear HN;go_wp2;go_roundw
          case rel=>exact ⟨j4+1,by omega,by go_num,cH,HS⟩
          case measure=>simp [RowKit.intOf];omega
      obtain rfl:n6=j4:=by omega
      have HR:=aa (BA (by omega) HK.out);clear HK;obtain ⟨q0,q1,q2,q3,q4,q5,q6,q7,q8,q9,qb⟩:=HS.out;clear qb;go_wp2_with fail;go_loopw [8] (λi wr=>∃j:Nat,j<=n8/\i=.int .i64 j/\Hid (R=((m.elems.drop j).all dL&&(m.aA.all dD&&(m.tables.all cu&&(m.aF.all cu&&m.start.all idx)))))/\Hid (jC w (.slice o0 n0 c0) (.slice o1 n1 c1) (.slice o2 n2 c2) (.slice o3 n3 c3) (.slice o4 n4 c4) (.slice o5 n5 c5) (.slice o6 n6 c6) (.slice o7 n7 c7) (.slice o8 n8 c8) (.slice o9 n9 c9) wr)) (λi _=>n8-(RowKit.intOf i).toNat)
      case atStart=>exact ⟨0,by omega,rfl,HR,HS⟩
      case round =>
       obtain ⟨j5,hj,rfl,HK,HS⟩:=hrel;by_cases hgo:j5<n8
       ·obtain ⟨q0,q1,q2,q3,q4,q5,q6,q7,q8,q9,qb⟩:=HS.out;clear qb q0 q1 q2 q3 q4 q5 q6 q7 q9;obtain ⟨b,off,cap2,hv2,hx⟩:=Row.some ((HM.out.on HS.out.bQ).elems) (by omega);injection hv2 with ho h2 h3;subst ho;obtain ⟨x,hxk⟩:∃x,m.elems[j5]?=some x:=⟨_,bG (by omega)⟩;have HI:=aa (hx j5 x hxk);have HN:Hid (R=(((rG x.offset.op&&okF (form x.offset.op) x.offset.op x.offset.a x.offset.b x.offset.n x.offset.labels (size d x.offset.body) (size d x.offset.els))&&x.funcs.all idx)&&((m.elems.drop (j5+1)).all dL&&(m.aA.all dD&&(m.tables.all cu&&(m.aF.all cu&&m.start.all idx)))))):=aa (Bz hxk HK.out);clear hx hxk h2 h3 HK;obtain ⟨g0,g1,g2,g3,⟨lv,g4,a4⟩,⟨bv,g5,a5⟩,⟨ev,g6,a6⟩⟩:=HI.out.offset;have k0:wr.cell? ⟨b,off+j5*8,none⟩=_:=g0;have k1:wr.cell? ⟨b,off+j5*8+1,none⟩=_:=g1;have k2:wr.cell? ⟨b,off+j5*8+2,none⟩=_:=g2;have k3:wr.cell? ⟨b,off+j5*8+3,none⟩=_:=g3;have k4:wr.cell? ⟨b,off+j5*8+4,none⟩=_:=g4;have k5:wr.cell? ⟨b,off+j5*8+5,none⟩=_:=g5;have k6:wr.cell? ⟨b,off+j5*8+6,none⟩=_:=g6;clear g0 g1 g2 g3 g4 g5 g6;obtain ⟨lo,lc,rfl⟩:=Row.len a4;obtain ⟨bo,bc,rfl⟩:=At.len d bv _ a5;obtain ⟨eo,ec,rfl⟩:=At.len d ev _ a6;have A4:=aa a4;clear a4 a5 a6;go_wp2_with fail;refine (J7 x.offset.op x.offset.a x.offset.b x.offset.n x.offset.labels lo bo eo _ _ lc bc ec _ A4.out).mono ?_;rintro e u0 ⟨rfl,hb⟩;have HS:=aa (HS.out.on hb);have HI:=aa (HI.out.on hb);clear hb q8 k0 k1 k2 k3 k4 k5 k6;obtain ⟨q0,q1,q2,q3,q4,q5,q6,q7,q8,q9,qb⟩:=HS.out;clear qb q0 q1 q2 q3 q4 q5 q6 q7 q9;generalize (rG x.offset.op&&okF (form x.offset.op) x.offset.op x.offset.a x.offset.b x.offset.n x.offset.labels (size d x.offset.body) (size d x.offset.els))=t50 at *;cases t50 with
        | false =>
         obtain rfl:R=false:=HN.out;clear HN;go_wp2;go_ret;exact ⟨rfl,HS.out.bQ⟩
        | true =>
         obtain ⟨vp,k7,ip⟩:=HI.out.funcs;obtain ⟨op,cp,rfl⟩:=Row.len ip;have IP:=aa ip;clear ip;go_wp2_with fail;refine (xb _ x.funcs _ IP.out).mono ?_;rintro e u1 ⟨rfl,hu⟩;obtain rfl:u0=u1:=hu.symm;generalize x.funcs.all idx=t51 at *;cases t51 with
         | false =>
          obtain rfl:R=false:=HN.out;clear HN;go_wp2;go_ret;exact ⟨rfl,HS.out.bQ⟩
         | true =>
          have cH:Hid (R=((m.elems.drop (j5+1)).all dL&&(m.aA.all dD&&(m.tables.all cu&&(m.aF.all cu&&m.start.all idx))))):=aa (by rw [HN.out];simp only [jk]);clear HN;go_wp2;go_roundw
          case rel=>exact ⟨j5+1,by omega,by go_num,cH,HS⟩
          case measure=>simp [RowKit.intOf];omega
       obtain rfl:n8=j5:=by omega
       have HR:=aa (BA (by omega) HK.out);clear HK;obtain ⟨q0,q1,q2,q3,q4,q5,q6,q7,q8,q9,qb⟩:=HS.out;clear qb;go_wp2_with fail;go_loopw [9] (λi wr=>∃j:Nat,j<=n9/\i=.int .i64 j/\Hid (R=((m.aA.drop j).all dD&&(m.tables.all cu&&(m.aF.all cu&&m.start.all idx))))/\Hid (jC w (.slice o0 n0 c0) (.slice o1 n1 c1) (.slice o2 n2 c2) (.slice o3 n3 c3) (.slice o4 n4 c4) (.slice o5 n5 c5) (.slice o6 n6 c6) (.slice o7 n7 c7) (.slice o8 n8 c8) (.slice o9 n9 c9) wr)) (λi _=>n9-(RowKit.intOf i).toNat)
       case atStart=>exact ⟨0,by omega,rfl,HR,HS⟩
       case round =>
        obtain ⟨j6,hj,rfl,HK,HS⟩:=hrel;by_cases hgo:j6<n9
        ·obtain ⟨q0,q1,q2,q3,q4,q5,q6,q7,q8,q9,qb⟩:=HS.out;clear qb q0 q1 q2 q3 q4 q5 q6 q7 q8;obtain ⟨b,off,cap2,hv2,hx⟩:=Row.some ((HM.out.on HS.out.bQ).aA) (by omega);injection hv2 with ho h2 h3;subst ho;obtain ⟨x,hxk⟩:∃x,m.aA[j6]?=some x:=⟨_,bG (by omega)⟩;have HI:=aa (hx j6 x hxk);have HN:Hid (R=((rG x.offset.op&&okF (form x.offset.op) x.offset.op x.offset.a x.offset.b x.offset.n x.offset.labels (size d x.offset.body) (size d x.offset.els))&&((m.aA.drop (j6+1)).all dD&&(m.tables.all cu&&(m.aF.all cu&&m.start.all idx))))):=aa (Bz hxk HK.out);clear hx hxk h2 h3 HK;obtain ⟨g0,g1,g2,g3,⟨lv,g4,a4⟩,⟨bv,g5,a5⟩,⟨ev,g6,a6⟩⟩:=HI.out.offset;have k0:wr.cell? ⟨b,off+j6*8,none⟩=_:=g0;have k1:wr.cell? ⟨b,off+j6*8+1,none⟩=_:=g1;have k2:wr.cell? ⟨b,off+j6*8+2,none⟩=_:=g2;have k3:wr.cell? ⟨b,off+j6*8+3,none⟩=_:=g3;have k4:wr.cell? ⟨b,off+j6*8+4,none⟩=_:=g4;have k5:wr.cell? ⟨b,off+j6*8+5,none⟩=_:=g5;have k6:wr.cell? ⟨b,off+j6*8+6,none⟩=_:=g6;clear g0 g1 g2 g3 g4 g5 g6;obtain ⟨lo,lc,rfl⟩:=Row.len a4;obtain ⟨bo,bc,rfl⟩:=At.len d bv _ a5;obtain ⟨eo,ec,rfl⟩:=At.len d ev _ a6;have A4:=aa a4;clear a4 a5 a6;go_wp2_with fail;refine (J7 x.offset.op x.offset.a x.offset.b x.offset.n x.offset.labels lo bo eo _ _ lc bc ec _ A4.out).mono ?_;rintro e u0 ⟨rfl,hb⟩;have HS:=aa (HS.out.on hb);have HI:=aa (HI.out.on hb);clear hb q9 k0 k1 k2 k3 k4 k5 k6;obtain ⟨q0,q1,q2,q3,q4,q5,q6,q7,q8,q9,qb⟩:=HS.out;clear qb q0 q1 q2 q3 q4 q5 q6 q7 q8;generalize (rG x.offset.op&&okF (form x.offset.op) x.offset.op x.offset.a x.offset.b x.offset.n x.offset.labels (size d x.offset.body) (size d x.offset.els))=t60 at *;cases t60 with
         | false =>
          obtain rfl:R=false:=HN.out;clear HN;go_wp2;go_ret;exact ⟨rfl,HS.out.bQ⟩
         | true =>
          have cH:Hid (R=((m.aA.drop (j6+1)).all dD&&(m.tables.all cu&&(m.aF.all cu&&m.start.all idx)))):=aa (by rw [HN.out];simp only [jk]);clear HN;go_wp2;go_roundw
          case rel=>exact ⟨j6+1,by omega,by go_num,cH,HS⟩
          case measure=>simp [RowKit.intOf];omega
        obtain rfl:n9=j6:=by omega
        have HR:=aa (BA (by omega) HK.out);clear HK;obtain ⟨q0,q1,q2,q3,q4,q5,q6,q7,q8,q9,qb⟩:=HS.out;clear qb;go_wp2_with fail;refine (RI _ m.tables _ (HM.out.on HS.out.bQ).tables).mono ?_;rintro e u0 ⟨rfl,hu⟩;obtain rfl:wr=u0:=hu.symm;generalize m.tables.all cu=t1 at *;cases t1 with
        | false =>
         obtain rfl:R=false:=HR.out;clear HR;go_wp2;go_ret;exact ⟨rfl,HS.out.bQ⟩
        | true =>
         go_wp2_with fail;refine (RI _ m.aF _ (HM.out.on HS.out.bQ).aF).mono ?_;rintro e u0 ⟨rfl,hu⟩;obtain rfl:wr=u0:=hu.symm;generalize m.aF.all cu=t1 at *;cases t1 with
         | false =>
          obtain rfl:R=false:=HR.out;clear HR;go_wp2;go_ret;exact ⟨rfl,HS.out.bQ⟩
         | true =>
          go_wp2_with fail;refine (xb _ m.start _ (HM.out.on HS.out.bQ).start).mono ?_;rintro e u0 ⟨rfl,hu⟩;obtain rfl:wr=u0:=hu.symm;have HR2:Hid (R=m.start.all idx):=aa (by rw [HR.out];simp only [jk]);rw [<- HR2.out];clear HR HR2;go_wp2;go_ret;exact ⟨rfl,HS.out.bQ⟩
namespace au
theorem PH {a b:Int} (h:a=b):Ending.returned (.int .i64 a)=.returned (.int .i64 b):=by rw [h]
def cntF (d:Nat):List (fF d)->Nat->Nat
 | [],c=>c
 | f :: r,c=>if c<=65536 then cntF d r (cnt d f.body c) else c
theorem aah {d:Nat} {l:List (fF d)} {k c:Nat} (hk:¬ (k<l.length/\c<=65536)):cntF d (l.drop k) c=c:=by
 by_cases hl:k<l.length
 ·have hc:¬ c<=65536:=λhc=>hk ⟨hl,hc⟩;rw [nN hl];unfold cntF;rw [AD hc]
 rw [List.drop_of_length_le (by omega)];rfl
theorem aai {d:Nat} {l:List (fF d)} {k c:Nat} {x:fF d} (hx:l[k]?=some x) (hc:c<=65536):cntF d (l.drop k) c=cntF d (l.drop (k+1)) (cnt d x.body c):=by
 have hl:k<l.length:=(gq.1 hx).1;have he:l[k]=x:=(gq.1 hx).2;rw [nN hl,he]
 conv=>lhs;unfold cntF
 rw [AE hc]
end au
theorem aaj (d:Nat) (v0 v1 v2 v3 v4 v5 v6 v7 v8 v9:Value) (l:List (fF d)) (w:AG) (hAt:Row 3 (rL w d) v2 l) (hT:PI v0 v1 v3 v4 v5 v6 v7 v8 v9) :
  Calls prog 32 #[.agg #[v0,v1,v2,v3,v4,v5,v6,v7,v8,v9]] w λe w'=>e=.returned (.int .i64 (min (cntF d l 0) 65537:Nat))/\AS w w':=by
 have hlen:=hAt.1;obtain ⟨o2,c2,hv⟩:=Row.len hAt;have HA:=ah hAt;subst hv;obtain ⟨⟨o0,m0,c0,rfl⟩,⟨o1,m1,c1,rfl⟩,⟨o3,m3,c3,rfl⟩,⟨o4,m4,c4,rfl⟩,⟨o5,m5,c5,rfl⟩,⟨o6,m6,c6,rfl⟩,⟨o7,m7,c7,rfl⟩,⟨o8,m8,c8,rfl⟩,⟨o9,m9,c9,rfl⟩⟩:=hT;have PK:=ah (jC.start w 32 (.slice o0 m0 c0) (.slice o1 m1 c1) (.slice o2 l.length c2) (.slice o3 m3 c3) (.slice o4 m4 c4) (.slice o5 m5 c5) (.slice o6 m6 c6) (.slice o7 m7 c7) (.slice o8 m8 c8) (.slice o9 m9 c9));obtain ⟨R,hR⟩:∃R,R=cntF d l 0:=⟨_,rfl⟩;rw [<- hR];have HR:Hid (R=cntF d (l.drop 0) 0):=hR;clear hAt hR;generalize hn:l.length=n at *;go_enter func32,ntmps32;go_wp2_with fail;go_loopw [3,4] (λu i wr=>∃k ck:Nat,k<=n/\ck<=65537/\u=.int .i64 ck/\i=.int .i64 k/\Hid (R=cntF d (l.drop k) ck)/\Hid (jC w (.slice o0 m0 c0) (.slice o1 m1 c1) (.slice o2 n c2) (.slice o3 m3 c3) (.slice o4 m4 c4) (.slice o5 m5 c5) (.slice o6 m6 c6) (.slice o7 m7 c7) (.slice o8 m8 c8) (.slice o9 m9 c9) wr)) (λ_ i _=>n-(RowKit.intOf i).toNat)
 case atStart=>exact ⟨0,0,by omega,by omega,rfl,rfl,HR,PK⟩
 case round =>
  obtain ⟨k,ck,hk,hck,rfl,rfl,HK,bI⟩:=hrel;have q2:=bI.out.c2;clear PK HR;by_cases hgo:k<n/\ck<=65536
  ·obtain ⟨b,off,Nw,hv2,hx⟩:=Row.some (HA.out.imp λ_ _ _ _=>rL.on bI.out.bQ) (by omega);injection hv2 with ho h2 h3;subst ho;obtain ⟨x,hxk⟩:∃x,l[k]?=some x:=⟨_,bG (by omega)⟩;obtain ⟨bv,kb,ab⟩:=(hx k x hxk).body;have HN:=ah (HK.out.trans (aai hxk hgo.2));have hle:=Ce d x.body ck;have I1:=ah (PL d bv x.body ck wr ab hck);clear hx hxk HK h2 h3 ab;generalize cnt d x.body ck=c1 at *;have hg1:k<n:=hgo.1;have hg2:ck<=65536:=hgo.2;have hd2:decide ((ck:Int)<=65536)=true:=by simp;omega
   clear hgo;go_wp2_with fail;refine I1.out.mono ?_;rintro e u ⟨rfl,mm,rfl⟩;have xk:=ah (bI.out.on (mE wr mm));clear q2 kb;go_wp2;go_roundw
   case rel=>exact ⟨k+1,c1,by omega,by omega,rfl,by go_num,HN,xk⟩
   case measure=>simp [RowKit.intOf];omega
  have HE:=ah (HK.out.trans (aah (by omega)));clear HK;by_cases hkn:k<n
  ·have hb:decide ((ck:Int)<=65536)=false:=by simp;omega
   go_wp2
   all_goals go_ret
   all_goals refine ⟨PH ?_,bI.out.bQ⟩
   all_goals rw [HE.out]
   all_goals first|omega|(simp;omega)|trace_state
  go_wp2
  all_goals go_ret
  all_goals refine ⟨PH ?_,bI.out.bQ⟩
  all_goals rw [HE.out]
  all_goals first|omega|(simp;omega)|trace_state
namespace au
theorem xg {p:Prop} (h:p):Hid p:=h
def lab:(d:Nat)->IL d->Bool
 | 0,_=>false
 | d+1,l=>List.any (α:=Ins (IL d)) l λx=>decide (4096<x.labels.length) || lab d x.body || lab d x.els
def dp:(d:Nat)->IL d->Nat->Bool
 | 0,_,_=>false
 | d+1,l,at_=>(decide (0<List.length (α:=Ins (IL d)) l)&&decide (64<at_)) || List.any (α:=Ins (IL d)) l λx=>dp d x.body (at_+1) || dp d x.els (at_+1)
theorem OY {α:Type} {p:α->Bool} {l:List α} {k:Nat} {r:Bool} (hk:¬ k<l.length) (h:r=(l.drop k).any p):r=false:=by
 rw [h,List.drop_of_length_le (by omega)];rfl
theorem OZ {α:Type} {p:α->Bool} {l:List α} {k:Nat} {r:Bool} {x:α} (hx:l[k]?=some x) (h:r=(l.drop k).any p):r=(p x || (l.drop (k+1)).any p):=by
 have hl:k<l.length:=(gq.1 hx).1;have he:l[k]=x:=(gq.1 hx).2;rw [h,nN hl,he,List.any_cons]
end au
theorem O0 (o:Option Addr) (cap:Nat) (w:AG) :
  Calls prog 33 #[.slice o 0 cap] w λe w'=>e=.returned (.bool false)/\w'=w:=by
 go_enter func33,ntmps33;go_wp2_with fail;go_loopw [3] (λi wr=>i=.int .i64 0/\wr=w) (λ_ _=>0)
 case atStart=>exact ⟨rfl,rfl⟩
 case round =>
  obtain ⟨rfl,rfl⟩:=hrel;go_wp2;go_ret;exact ⟨rfl,rfl⟩
def O1 (d:Nat):Prop:=∀(v:Value) (l:IL d) (w:AG),At w d v l ->
  Calls prog 33 #[v] w λe w'=>e=.returned (.bool (lab d l))/\w'=w
theorem Zx (d:Nat) (IH:O1 d) (v:Value) (l:List (Ins (IL d))) (w:AG) (hAt:Row 7 (fM w (At w d)) v l) :
  Calls prog 33 #[v] w λe w'=>e=.returned (.bool (l.any λx=>decide (4096<x.labels.length) || lab d x.body || lab d x.els))/\w'=w:=by
 have hlen:=hAt.1;by_cases hz:l.length=0
 ·obtain ⟨o,cap,rfl⟩:=hAt.len;rw [hz];obtain rfl:l = []:=iZ.1 hz;exact O0 o cap w
 obtain ⟨b,off,cap,rfl,hx⟩:=hAt.some (by omega);obtain ⟨R,hR⟩:∃R,R=l.any λx=>decide (4096<x.labels.length) || lab d x.body || lab d x.els:=⟨_,rfl⟩;rw [<- hR];have HR:Hid (R=(l.drop 0).any λx=>decide (4096<x.labels.length) || lab d x.body || lab d x.els):=hR;have HX:=xg hx;clear hx hAt hR;generalize hn:l.length=n at *;go_enter func33,ntmps33;go_wp2_with fail;go_loopw [3] (λi wr=>∃k:Nat,k<=n/\i=.int .i64 k/\R=((l.drop k).any λx=>decide (4096<x.labels.length) || lab d x.body || lab d x.els)/\wr=w) (λi _=>n-(RowKit.intOf i).toNat)
 case atStart=>exact ⟨0,by omega,rfl,HR.out,rfl⟩
 case round =>
  obtain ⟨k,hk,rfl,hrr,rfl⟩:=hrel;have HK:=xg hrr;clear hrr;by_cases hgo:k<n
  ·obtain ⟨x,hxk⟩:∃x,l[k]?=some x:=⟨_,bG (by omega)⟩;have hI:=HX.out k x hxk;obtain ⟨vl,cl,al⟩:=hI.labels;obtain ⟨ol,afp,rfl⟩:=al.len;obtain ⟨vb,cb,ab⟩:=hI.body;obtain ⟨ve,ce,ae⟩:=hI.els;have HN:=OZ hxk HK.out;have i1:=xg (IH vb x.body wr ab);have i2:=xg (IH ve x.els wr ae);have hll:=al.1;clear hI hxk ab ae HK al;generalize x.labels.length=nl at *;by_cases h1:4096<nl
   ·have hfin:R=true:=by rw [HN,ay h1];rfl
    clear HN;go_wp2;go_ret;exact ⟨rfl,rfl⟩
   rw [aj h1,Bool.false_or] at HN;generalize lab d x.body=r1 at *;generalize lab d x.els=r2 at *;have rY:=xg HN;clear HN;go_wp2_with fail;refine i1.out.mono ?_;rintro e w1 ⟨rfl,rfl⟩;cases r1
   ·go_wp2_with fail;refine i2.out.mono ?_;rintro e w1 ⟨rfl,rfl⟩;cases r2
    ·go_wp2;go_roundw
     case rel=>exact ⟨k+1,by omega,by go_num,by rw [rY.out];rfl,trivial⟩
     case measure=>simp [RowKit.intOf];omega
    have hfin:R=true:=by rw [rY.out];rfl
    go_wp2;go_ret;exact ⟨by rw [hfin];rfl,rfl⟩
   have hfin:R=true:=by rw [rY.out];rfl
   go_wp2;go_ret;exact ⟨by rw [hfin];rfl,rfl⟩
  have HE:=OY (by omega) HK.out;clear HK;go_wp2;go_ret;exact ⟨by rw [HE];rfl,rfl⟩
theorem O2:∀(d:Nat),O1 d
 | 0=>λv l w ⟨o,cap,hv⟩=>by
  subst hv;exact O0 o cap w
 | d+1=>λv l w hAt=>Zx d (O2 d) v l w hAt
theorem O3 (o:Option Addr) (cap at_:Nat) (w:AG) :
  Calls prog 34 #[.slice o 0 cap,.int .i64 at_] w λe w'=>e=.returned (.bool false)/\w'=w:=by
 go_enter func34,ntmps34;go_wp2_with fail;go_loopw [5] (λi wr=>i=.int .i64 0/\wr=w) (λ_ _=>0)
 case atStart=>exact ⟨rfl,rfl⟩
 case round =>
  obtain ⟨rfl,rfl⟩:=hrel;go_wp2;go_ret;exact ⟨rfl,rfl⟩
def O4 (d:Nat):Prop:=∀(v:Value) (l:IL d) (at_:Nat) (w:AG),At w d v l->at_<=65 ->
  Calls prog 34 #[v,.int .i64 at_] w λe w'=>e=.returned (.bool (dp d l at_))/\w'=w
theorem Zy (d:Nat) (IH:O4 d) (v:Value) (l:List (Ins (IL d))) (at_:Nat) (w:AG) (hAt:Row 7 (fM w (At w d)) v l) (ha:at_<=65) :
  Calls prog 34 #[v,.int .i64 at_] w λe w'=>e=.returned (.bool ((decide (0<l.length)&&decide (64<at_)) || l.any λx=>dp d x.body (at_+1) || dp d x.els (at_+1)))/\w'=w:=by
 have hlen:=hAt.1;by_cases hz:l.length=0
 ·obtain ⟨o,cap,rfl⟩:=hAt.len;rw [hz];obtain rfl:l = []:=iZ.1 hz;exact O3 o cap at_ w
 obtain ⟨b,off,cap,rfl,hx⟩:=hAt.some (by omega);have hpos:decide (0<l.length)=true:=by simp;omega
 rw [hpos,jk];by_cases h64:64<at_
 ·rw [ay h64,Bool.true_or];clear hx hAt hpos;generalize l.length=n at *;go_enter func34,ntmps34;go_wp2;go_ret;exact ⟨rfl,rfl⟩
 rw [aj h64,Bool.false_or];obtain ⟨R,hR⟩:∃R,R=l.any λx=>dp d x.body (at_+1) || dp d x.els (at_+1):=⟨_,rfl⟩;rw [<- hR];have HR:Hid (R=(l.drop 0).any λx=>dp d x.body (at_+1) || dp d x.els (at_+1)):=hR;have HX:=xg hx;clear hx hAt hR hpos;have e1:((at_+1:Nat):Int)=(at_:Int)+1:=by omega
 generalize hn:l.length=n at *;go_enter func34,ntmps34;go_wp2_with fail;go_loopw [5] (λi wr=>∃k:Nat,k<=n/\i=.int .i64 k/\R=((l.drop k).any λx=>dp d x.body (at_+1) || dp d x.els (at_+1))/\wr=w) (λi _=>n-(RowKit.intOf i).toNat)
 case atStart=>exact ⟨0,by omega,rfl,HR.out,rfl⟩
 case round =>
  obtain ⟨k,hk,rfl,hrr,rfl⟩:=hrel;have HK:=xg hrr;clear hrr;by_cases hgo:k<n
  ·obtain ⟨x,hxk⟩:∃x,l[k]?=some x:=⟨_,bG (by omega)⟩;have hI:=HX.out k x hxk;obtain ⟨vb,cb,ab⟩:=hI.body;obtain ⟨ve,ce,ae⟩:=hI.els;have HN:=OZ hxk HK.out;have j1:=IH vb x.body (at_+1) wr ab (by omega);have j2:=IH ve x.els (at_+1) wr ae (by omega);rw [e1] at j1 j2;have i1:=xg j1;have i2:=xg j2;clear hI hxk ab ae HK j1 j2 e1;generalize dp d x.body (at_+1)=r1 at *;generalize dp d x.els (at_+1)=r2 at *;have rY:=xg HN;clear HN;go_wp2_with fail;refine i1.out.mono ?_;rintro e w1 ⟨rfl,rfl⟩;cases r1
   ·go_wp2_with fail;refine i2.out.mono ?_;rintro e w1 ⟨rfl,rfl⟩;cases r2
    ·go_wp2;go_roundw
     case rel=>exact ⟨k+1,by omega,by go_num,by rw [rY.out];rfl,trivial⟩
     case measure=>simp [RowKit.intOf];omega
    have hfin:R=true:=by rw [rY.out];rfl
    go_wp2;go_ret;exact ⟨by rw [hfin];rfl,rfl⟩
   have hfin:R=true:=by rw [rY.out];rfl
   go_wp2;go_ret;exact ⟨by rw [hfin];rfl,rfl⟩
  have HE:=OY (by omega) HK.out;clear HK;go_wp2;go_ret;exact ⟨by rw [HE];rfl,rfl⟩
theorem O5:∀(d:Nat),O4 d
 | 0=>λv l at_ w ⟨o,cap,hv⟩ _=>by
  subst hv;exact O3 o cap at_ w
 | d+1=>λv l at_ w hAt ha=>Zy d (O5 d) v l at_ w hAt ha
end Go.Proofs.YtcfifbgemfladaaGreatDoor
