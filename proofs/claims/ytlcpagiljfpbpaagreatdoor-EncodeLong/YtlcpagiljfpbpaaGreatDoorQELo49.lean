/- Texts that the claim needs. -/
import Derived.Test.YtlcpagiljfpbpaaGreatDoorQELo44
import Derived.Test.YtlcpagiljfpbpaaGreatDoorQELo47
import Derived.Test.YtlcpagiljfpbpaaGreatDoorQELo48
import Derived.Test.YtlcpagiljfpbpaaGreatDoorQELo24
namespace Go.Proofs.YtlcpagiljfpbpaaGreatDoor
open Go.RowKit Rep
set_option linter.unusedVariables false
namespace Rep
def dT (t:FT):Bool:=t.params.all typ && t.results.all typ
def dI (i:Imp):Bool:=idx i.type && (nmD i.mod && nmD i.name)
def dF {d:Nat} (f:Fun d):Bool:=idx f.type && (f.locals.all typ && okL d f.body)
def dC {d:Nat} (x:Ins (IL d)):Bool:=cst x.op && okF (form x.op) x.op x.a x.b x.n x.labels (size d x.body) (size d x.els)
def dG {d:Nat} (g:Glo d):Bool:=[g.type].all typ && dC g.init
def dE (e:Exp):Bool:=nmD e.name && (decide (0<=e.kind/\e.kind<=3) && idx e.index)
def dL {d:Nat} (e:Elm d):Bool:=dC e.offset && e.funcs.all idx
def dD {d:Nat} (x:Dat d):Bool:=dC x.offset
def shD {d:Nat} (m:Mod d):Bool :=
 m.types.all dT && (m.imports.all dI && (m.funcs.all dF && (m.globals.all dG && (m.exports.all dE && (m.elems.all dL && (m.datas.all dD && (m.tables.all shL && (m.mems.all shL && m.start.all idx))))))))
theorem all_step {α:Type} {p:α->Bool} {l:List α} {j:Nat} {x:α} {R T:Bool} (hx:l[j]?=some x) (h:R=((l.drop j).all p && T)):R=(p x && ((l.drop (j+1)).all p && T)):=by
 rw [h,all_at hx rfl,Bool.and_assoc]
theorem all_out {α:Type} {p:α->Bool} {l:List α} {j:Nat} {R T:Bool} (hj:l.length<=j) (h:R=((l.drop j).all p && T)):R=T:=by
 rw [h,List.drop_of_length_le hj];rfl
end Rep
set_option maxRecDepth 100000 in
set_option maxHeartbeats 8000000 in
theorem refShape (d:Nat) (v0 v1 v2 v3 v4 v5 v6 v7 v8 v9:Value) (m:Mod d) (w:World) (hM:ModAt w d v0 v1 v2 v3 v4 v5 v6 v7 v8 v9 m) (hX:Texts m) :
  Calls Tryz.prog 61 #[.agg #[v0,v1,v2,v3,v4,v5,v6,v7,v8,v9]] w fun e w'=>e=.returned (.bool (shD m))/\Below w.heap.size w w':=by
 have l0:=hM.types.1
 have l1:=hM.imports.1
 have l2:=hM.funcs.1
 have l3:=hM.tables.1
 have l4:=hM.mems.1
 have l5:=hM.globals.1
 have l6:=hM.exports.1
 have l7:=hM.start.1
 have l8:=hM.elems.1
 have l9:=hM.datas.1
 have HM:=hideR hM
 have HX:=hideR hX
 obtain ⟨o0,c0,rfl⟩:=Row.len hM.types
 obtain ⟨o1,c1,rfl⟩:=Row.len hM.imports
 obtain ⟨o2,c2,rfl⟩:=Row.len hM.funcs
 obtain ⟨o3,c3,rfl⟩:=Row.len hM.tables
 obtain ⟨o4,c4,rfl⟩:=Row.len hM.mems
 obtain ⟨o5,c5,rfl⟩:=Row.len hM.globals
 obtain ⟨o6,c6,rfl⟩:=Row.len hM.exports
 obtain ⟨o7,c7,rfl⟩:=Row.len hM.start
 obtain ⟨o8,c8,rfl⟩:=Row.len hM.elems
 obtain ⟨o9,c9,rfl⟩:=Row.len hM.datas
 have HS:=hideR (Box.start w 32 (.slice o0 m.types.length c0) (.slice o1 m.imports.length c1) (.slice o2 m.funcs.length c2) (.slice o3 m.tables.length c3) (.slice o4 m.mems.length c4) (.slice o5 m.globals.length c5) (.slice o6 m.exports.length c6) (.slice o7 m.start.length c7) (.slice o8 m.elems.length c8) (.slice o9 m.datas.length c9))
 obtain ⟨R,hR⟩:∃R,R=shD m:=⟨_,rfl⟩
 rw [<- hR]
 have HR:Hid (R=((m.types.drop 0).all dT && (m.imports.all dI && (m.funcs.all dF && (m.globals.all dG && (m.exports.all dE && (m.elems.all dL && (m.datas.all dD && (m.tables.all shL && (m.mems.all shL && m.start.all idx)))))))))):=hR
 clear hM hX hR
 generalize hn0:m.types.length=n0 at *
 generalize hn1:m.imports.length=n1 at *
 generalize hn2:m.funcs.length=n2 at *
 generalize hn3:m.tables.length=n3 at *
 generalize hn4:m.mems.length=n4 at *
 generalize hn5:m.globals.length=n5 at *
 generalize hn6:m.exports.length=n6 at *
 generalize hn7:m.start.length=n7 at *
 generalize hn8:m.elems.length=n8 at *
 generalize hn9:m.datas.length=n9 at *
 go_enter Tryz.func61,Tryz.ntmps61
 go_upto_region 1 with fail
 obtain ⟨wb,hwb⟩:∃wb,wb=w.alloc (.cells #[.slice o0 n0 c0,.slice o1 n1 c1,.slice o2 n2 c2,.slice o3 n3 c3,.slice o4 n4 c4,.slice o5 n5 c5,.slice o6 n6 c6,.slice o7 n7 c7,.slice o8 n8 c8,.slice o9 n9 c9] 32):=⟨_,rfl⟩
 rw [<- hwb] at HS ⊢
 clear hwb
 obtain ⟨q0,q1,q2,q3,q4,q5,q6,q7,q8,q9,qb⟩:=HS.out
 clear qb
 go_wp2_with fail
 go_loopw [3] (fun i wr=>∃j:Nat,j<=n0/\i=.int .i64 j/\Hid (R=((m.types.drop j).all dT && (m.imports.all dI && (m.funcs.all dF && (m.globals.all dG && (m.exports.all dE && (m.elems.all dL && (m.datas.all dD && (m.tables.all shL && (m.mems.all shL && m.start.all idx))))))))))/\Hid (Box w (.slice o0 n0 c0) (.slice o1 n1 c1) (.slice o2 n2 c2) (.slice o3 n3 c3) (.slice o4 n4 c4) (.slice o5 n5 c5) (.slice o6 n6 c6) (.slice o7 n7 c7) (.slice o8 n8 c8) (.slice o9 n9 c9) wr)) (fun i _=>n0-(intOf i).toNat)
 case atStart=>exact ⟨0,by omega,rfl,HR,HS⟩
 case round =>
  obtain ⟨j0,hj,rfl,HK,HS⟩:=hrel
  by_cases hgo:j0<n0
  ·obtain ⟨q0,q1,q2,q3,q4,q5,q6,q7,q8,q9,qb⟩:=HS.out
   clear qb q1 q2 q3 q4 q5 q6 q7 q8 q9
   obtain ⟨b,off,cap2,hv2,hx⟩:=Row.some ((HM.out.on HS.out.bel).types) (by omega)
   injection hv2 with ho h2 h3
   subst ho
   obtain ⟨x,hxk⟩:∃x,m.types[j0]?=some x:=⟨_,List.getElem?_eq_getElem (by omega)⟩
   have HI:=hideR (hx j0 x hxk)
   have HN:Hid (R=((x.params.all typ && x.results.all typ) && ((m.types.drop (j0+1)).all dT && (m.imports.all dI && (m.funcs.all dF && (m.globals.all dG && (m.exports.all dE && (m.elems.all dL && (m.datas.all dD && (m.tables.all shL && (m.mems.all shL && m.start.all idx))))))))))):=hideR (all_step hxk HK.out)
   clear hx hxk h2 h3 HK
   obtain ⟨vp,k0,ip⟩:=HI.out.params
   obtain ⟨op,cp,rfl⟩:=Row.len ip
   have IP:=hideR ip
   clear ip
   go_wp2_with fail
   refine (refTypes _ x.params _ IP.out).mono ?_
   rintro e u0 ⟨rfl,hu⟩
   obtain rfl:wr=u0:=hu.symm
   generalize x.params.all typ=t00 at *
   cases t00 with
   | false =>
    obtain rfl:R=false:=HN.out
    clear HN
    go_wp2
    go_ret
    exact ⟨rfl,HS.out.bel⟩
   | true =>
    obtain ⟨vr,k1,ir⟩:=HI.out.results
    obtain ⟨or,cr,rfl⟩:=Row.len ir
    have IR:=hideR ir
    clear ir
    go_wp2_with fail
    refine (refTypes _ x.results _ IR.out).mono ?_
    rintro e u1 ⟨rfl,hu⟩
    obtain rfl:wr=u1:=hu.symm
    generalize x.results.all typ=t01 at *
    cases t01 with
    | false =>
     obtain rfl:R=false:=HN.out
     clear HN
     go_wp2
     go_ret
     exact ⟨rfl,HS.out.bel⟩
    | true =>
     have HN2:Hid (R=((m.types.drop (j0+1)).all dT && (m.imports.all dI && (m.funcs.all dF && (m.globals.all dG && (m.exports.all dE && (m.elems.all dL && (m.datas.all dD && (m.tables.all shL && (m.mems.all shL && m.start.all idx)))))))))):=hideR (by rw [HN.out];simp only [Bool.true_and])
     clear HN
     go_wp2
     go_roundw
     case rel=>exact ⟨j0+1,by omega,by go_num,HN2,HS⟩
     case measure=>simp [intOf];omega
  obtain rfl:n0=j0:=by omega
  have HR:=hideR (all_out (by omega) HK.out)
  clear HK
  obtain ⟨q0,q1,q2,q3,q4,q5,q6,q7,q8,q9,qb⟩:=HS.out
  clear qb
  go_wp2_with fail
  go_loopw [4] (fun i wr=>∃j:Nat,j<=n1/\i=.int .i64 j/\Hid (R=((m.imports.drop j).all dI && (m.funcs.all dF && (m.globals.all dG && (m.exports.all dE && (m.elems.all dL && (m.datas.all dD && (m.tables.all shL && (m.mems.all shL && m.start.all idx)))))))))/\Hid (Box w (.slice o0 n0 c0) (.slice o1 n1 c1) (.slice o2 n2 c2) (.slice o3 n3 c3) (.slice o4 n4 c4) (.slice o5 n5 c5) (.slice o6 n6 c6) (.slice o7 n7 c7) (.slice o8 n8 c8) (.slice o9 n9 c9) wr)) (fun i _=>n1-(intOf i).toNat)
  case atStart=>exact ⟨0,by omega,rfl,HR,HS⟩
  case round =>
   obtain ⟨j1,hj,rfl,HK,HS⟩:=hrel
   by_cases hgo:j1<n1
   ·obtain ⟨q0,q1,q2,q3,q4,q5,q6,q7,q8,q9,qb⟩:=HS.out
    clear qb q0 q2 q3 q4 q5 q6 q7 q8 q9
    obtain ⟨b,off,cap2,hv2,hx⟩:=Row.some ((HM.out.on HS.out.bel).imports) (by omega)
    injection hv2 with ho h2 h3
    subst ho
    obtain ⟨x,hxk⟩:∃x,m.imports[j1]?=some x:=⟨_,List.getElem?_eq_getElem (by omega)⟩
    have HI:=hideR (hx j1 x hxk)
    have hz:=HX.out.imports x (List.mem_of_getElem? hxk)
    have HN:Hid (R=((idx x.type && (nmD x.mod && nmD x.name)) && ((m.imports.drop (j1+1)).all dI && (m.funcs.all dF && (m.globals.all dG && (m.exports.all dE && (m.elems.all dL && (m.datas.all dD && (m.tables.all shL && (m.mems.all shL && m.start.all idx)))))))))):=hideR (all_step hxk HK.out)
    clear hx hxk h2 h3 HK
    have k2:=HI.out.type
    go_wp2_with fail
    refine (refIndex _ _).mono ?_
    rintro e u0 ⟨rfl,hu⟩
    obtain rfl:wr=u0:=hu.symm
    generalize idx x.type=t10 at *
    cases t10 with
    | false =>
     obtain rfl:R=false:=HN.out
     clear HN
     go_wp2
     go_ret
     exact ⟨rfl,HS.out.bel⟩
    | true =>
     have k0:=HI.out.mod
     go_wp2_with fail
     refine (refName _ _ hz.1).mono ?_
     rintro e u1 ⟨rfl,hu⟩
     obtain rfl:wr=u1:=hu.symm
     generalize nmD x.mod=t11 at *
     cases t11 with
     | false =>
      obtain rfl:R=false:=HN.out
      clear HN
      go_wp2
      go_ret
      exact ⟨rfl,HS.out.bel⟩
     | true =>
      have k1:=HI.out.name
      go_wp2_with fail
      refine (refName _ _ hz.2).mono ?_
      rintro e u2 ⟨rfl,hu⟩
      obtain rfl:wr=u2:=hu.symm
      generalize nmD x.name=t12 at *
      cases t12 with
      | false =>
       obtain rfl:R=false:=HN.out
       clear HN
       go_wp2
       go_ret
       exact ⟨rfl,HS.out.bel⟩
      | true =>
       have HN2:Hid (R=((m.imports.drop (j1+1)).all dI && (m.funcs.all dF && (m.globals.all dG && (m.exports.all dE && (m.elems.all dL && (m.datas.all dD && (m.tables.all shL && (m.mems.all shL && m.start.all idx))))))))):=hideR (by rw [HN.out];simp only [Bool.true_and])
       clear HN
       go_wp2
       go_roundw
       case rel=>exact ⟨j1+1,by omega,by go_num,HN2,HS⟩
       case measure=>simp [intOf];omega
   obtain rfl:n1=j1:=by omega
   have HR:=hideR (all_out (by omega) HK.out)
   clear HK
   obtain ⟨q0,q1,q2,q3,q4,q5,q6,q7,q8,q9,qb⟩:=HS.out
   clear qb
   go_wp2_with fail
   go_loopw [5] (fun i wr=>∃j:Nat,j<=n2/\i=.int .i64 j/\Hid (R=((m.funcs.drop j).all dF && (m.globals.all dG && (m.exports.all dE && (m.elems.all dL && (m.datas.all dD && (m.tables.all shL && (m.mems.all shL && m.start.all idx))))))))/\Hid (Box w (.slice o0 n0 c0) (.slice o1 n1 c1) (.slice o2 n2 c2) (.slice o3 n3 c3) (.slice o4 n4 c4) (.slice o5 n5 c5) (.slice o6 n6 c6) (.slice o7 n7 c7) (.slice o8 n8 c8) (.slice o9 n9 c9) wr)) (fun i _=>n2-(intOf i).toNat)
   case atStart=>exact ⟨0,by omega,rfl,HR,HS⟩
   case round =>
    obtain ⟨j2,hj,rfl,HK,HS⟩:=hrel
    by_cases hgo:j2<n2
    ·obtain ⟨q0,q1,q2,q3,q4,q5,q6,q7,q8,q9,qb⟩:=HS.out
     clear qb q0 q1 q3 q4 q5 q6 q7 q8 q9
     obtain ⟨b,off,cap2,hv2,hx⟩:=Row.some ((HM.out.on HS.out.bel).funcs) (by omega)
     injection hv2 with ho h2 h3
     subst ho
     obtain ⟨x,hxk⟩:∃x,m.funcs[j2]?=some x:=⟨_,List.getElem?_eq_getElem (by omega)⟩
     have HI:=hideR (hx j2 x hxk)
     have HN:Hid (R=((idx x.type && (x.locals.all typ && okL d x.body)) && ((m.funcs.drop (j2+1)).all dF && (m.globals.all dG && (m.exports.all dE && (m.elems.all dL && (m.datas.all dD && (m.tables.all shL && (m.mems.all shL && m.start.all idx))))))))):=hideR (all_step hxk HK.out)
     clear hx hxk h2 h3 HK
     have k0:=HI.out.type
     go_wp2_with fail
     refine (refIndex _ _).mono ?_
     rintro e u0 ⟨rfl,hu⟩
     obtain rfl:wr=u0:=hu.symm
     generalize idx x.type=t20 at *
     cases t20 with
     | false =>
      obtain rfl:R=false:=HN.out
      clear HN
      go_wp2
      go_ret
      exact ⟨rfl,HS.out.bel⟩
     | true =>
      obtain ⟨vp,k1,ip⟩:=HI.out.locals
      obtain ⟨op,cp,rfl⟩:=Row.len ip
      have IP:=hideR ip
      clear ip
      go_wp2_with fail
      refine (refTypes _ x.locals _ IP.out).mono ?_
      rintro e u1 ⟨rfl,hu⟩
      obtain rfl:wr=u1:=hu.symm
      generalize x.locals.all typ=t21 at *
      cases t21 with
      | false =>
       obtain rfl:R=false:=HN.out
       clear HN
       go_wp2
       go_ret
       exact ⟨rfl,HS.out.bel⟩
      | true =>
       obtain ⟨vb,k2,ab⟩:=HI.out.body
       obtain ⟨ob,cb,rfl⟩:=At.len d vb _ ab
       have AB:=hideR ab
       clear ab
       go_wp2_with fail
       refine (refAll d _ x.body _ AB.out).mono ?_
       rintro e u2 ⟨rfl,hb⟩
       have HS:=hideR (HS.out.on hb)
       have HI:=hideR (HI.out.on hb)
       clear hb q2 k2
       obtain ⟨q0,q1,q2,q3,q4,q5,q6,q7,q8,q9,qb⟩:=HS.out
       clear qb q0 q1 q3 q4 q5 q6 q7 q8 q9
       generalize okL d x.body=t22 at *
       cases t22 with
       | false =>
        obtain rfl:R=false:=HN.out
        clear HN
        go_wp2
        go_ret
        exact ⟨rfl,HS.out.bel⟩
       | true =>
        have HN2:Hid (R=((m.funcs.drop (j2+1)).all dF && (m.globals.all dG && (m.exports.all dE && (m.elems.all dL && (m.datas.all dD && (m.tables.all shL && (m.mems.all shL && m.start.all idx)))))))):=hideR (by rw [HN.out];simp only [Bool.true_and])
        clear HN
        go_wp2
        go_roundw
        case rel=>exact ⟨j2+1,by omega,by go_num,HN2,HS⟩
        case measure=>simp [intOf];omega
    obtain rfl:n2=j2:=by omega
    have HR:=hideR (all_out (by omega) HK.out)
    clear HK
    obtain ⟨q0,q1,q2,q3,q4,q5,q6,q7,q8,q9,qb⟩:=HS.out
    clear qb
    go_wp2_with fail
    go_loopw [6] (fun i wr=>∃j:Nat,j<=n5/\i=.int .i64 j/\Hid (R=((m.globals.drop j).all dG && (m.exports.all dE && (m.elems.all dL && (m.datas.all dD && (m.tables.all shL && (m.mems.all shL && m.start.all idx)))))))/\Hid (Box w (.slice o0 n0 c0) (.slice o1 n1 c1) (.slice o2 n2 c2) (.slice o3 n3 c3) (.slice o4 n4 c4) (.slice o5 n5 c5) (.slice o6 n6 c6) (.slice o7 n7 c7) (.slice o8 n8 c8) (.slice o9 n9 c9) wr)) (fun i _=>n5-(intOf i).toNat)
    case atStart=>exact ⟨0,by omega,rfl,HR,HS⟩
    case round =>
     obtain ⟨j3,hj,rfl,HK,HS⟩:=hrel
     by_cases hgo:j3<n5
     ·obtain ⟨q0,q1,q2,q3,q4,q5,q6,q7,q8,q9,qb⟩:=HS.out
      clear qb q0 q1 q2 q3 q4 q6 q7 q8 q9
      obtain ⟨b,off,cap2,hv2,hx⟩:=Row.some ((HM.out.on HS.out.bel).globals) (by omega)
      injection hv2 with ho h2 h3
      subst ho
      obtain ⟨x,hxk⟩:∃x,m.globals[j3]?=some x:=⟨_,List.getElem?_eq_getElem (by omega)⟩
      have HI:=hideR (hx j3 x hxk)
      have HN:Hid (R=(([x.type].all typ && (cst x.init.op && okF (form x.init.op) x.init.op x.init.a x.init.b x.init.n x.init.labels (size d x.init.body) (size d x.init.els))) && ((m.globals.drop (j3+1)).all dG && (m.exports.all dE && (m.elems.all dL && (m.datas.all dD && (m.tables.all shL && (m.mems.all shL && m.start.all idx)))))))):=hideR (all_step hxk HK.out)
      clear hx hxk h2 h3 HK
      have k0:=HI.out.type
      go_wp2_with fail
      refine (refTypes _ [x.type] _ (ints_new _ _ _ _ [x.type] (by simp) (by simp))).mono ?_
      rintro e u0 ⟨rfl,hu⟩
      have hb:=below_al hu
      clear hu
      have HS:=hideR (HS.out.on hb)
      have HI:=hideR (HI.out.on hb)
      clear hb q5 k0
      obtain ⟨q0,q1,q2,q3,q4,q5,q6,q7,q8,q9,qb⟩:=HS.out
      clear qb q0 q1 q2 q3 q4 q6 q7 q8 q9
      generalize [x.type].all typ=t30 at *
      cases t30 with
      | false =>
       obtain rfl:R=false:=HN.out
       clear HN
       go_wp2
       go_ret
       exact ⟨rfl,HS.out.bel⟩
      | true =>
       obtain ⟨g0,g1,g2,g3,⟨lv,g4,a4⟩,⟨bv,g5,a5⟩,⟨ev,g6,a6⟩⟩:=HI.out.init
       have k2:u0.cell? ⟨b,off+j3*9+2,none⟩=_:=g0
       have k3:u0.cell? ⟨b,off+j3*9+3,none⟩=_:=g1
       have k4:u0.cell? ⟨b,off+j3*9+4,none⟩=_:=g2
       have k5:u0.cell? ⟨b,off+j3*9+5,none⟩=_:=g3
       have k6:u0.cell? ⟨b,off+j3*9+6,none⟩=_:=g4
       have k7:u0.cell? ⟨b,off+j3*9+7,none⟩=_:=g5
       have k8:u0.cell? ⟨b,off+j3*9+8,none⟩=_:=g6
       clear g0 g1 g2 g3 g4 g5 g6
       obtain ⟨lo,lc,rfl⟩:=Row.len a4
       obtain ⟨bo,bc,rfl⟩:=At.len d bv _ a5
       obtain ⟨eo,ec,rfl⟩:=At.len d ev _ a6
       have A4:=hideR a4
       clear a4 a5 a6
       go_wp2_with fail
       refine (refConstant x.init.op x.init.a x.init.b x.init.n x.init.labels lo bo eo _ _ lc bc ec _ A4.out).mono ?_
       rintro e u1 ⟨rfl,hb⟩
       have HS:=hideR (HS.out.on hb)
       have HI:=hideR (HI.out.on hb)
       clear hb q5 k2 k3 k4 k5 k6 k7 k8
       obtain ⟨q0,q1,q2,q3,q4,q5,q6,q7,q8,q9,qb⟩:=HS.out
       clear qb q0 q1 q2 q3 q4 q6 q7 q8 q9
       generalize (cst x.init.op && okF (form x.init.op) x.init.op x.init.a x.init.b x.init.n x.init.labels (size d x.init.body) (size d x.init.els))=t31 at *
       cases t31 with
       | false =>
        obtain rfl:R=false:=HN.out
        clear HN
        go_wp2
        go_ret
        exact ⟨rfl,HS.out.bel⟩
       | true =>
        have HN2:Hid (R=((m.globals.drop (j3+1)).all dG && (m.exports.all dE && (m.elems.all dL && (m.datas.all dD && (m.tables.all shL && (m.mems.all shL && m.start.all idx))))))):=hideR (by rw [HN.out];simp only [Bool.true_and])
        clear HN
        go_wp2
        go_roundw
        case rel=>exact ⟨j3+1,by omega,by go_num,HN2,HS⟩
        case measure=>simp [intOf];omega
     obtain rfl:n5=j3:=by omega
     have HR:=hideR (all_out (by omega) HK.out)
     clear HK
     obtain ⟨q0,q1,q2,q3,q4,q5,q6,q7,q8,q9,qb⟩:=HS.out
     clear qb
     go_wp2_with fail
     go_loopw [7] (fun i wr=>∃j:Nat,j<=n6/\i=.int .i64 j/\Hid (R=((m.exports.drop j).all dE && (m.elems.all dL && (m.datas.all dD && (m.tables.all shL && (m.mems.all shL && m.start.all idx))))))/\Hid (Box w (.slice o0 n0 c0) (.slice o1 n1 c1) (.slice o2 n2 c2) (.slice o3 n3 c3) (.slice o4 n4 c4) (.slice o5 n5 c5) (.slice o6 n6 c6) (.slice o7 n7 c7) (.slice o8 n8 c8) (.slice o9 n9 c9) wr)) (fun i _=>n6-(intOf i).toNat)
     case atStart=>exact ⟨0,by omega,rfl,HR,HS⟩
     case round =>
      obtain ⟨j4,hj,rfl,HK,HS⟩:=hrel
      by_cases hgo:j4<n6
      ·obtain ⟨q0,q1,q2,q3,q4,q5,q6,q7,q8,q9,qb⟩:=HS.out
       clear qb q0 q1 q2 q3 q4 q5 q7 q8 q9
       obtain ⟨b,off,cap2,hv2,hx⟩:=Row.some ((HM.out.on HS.out.bel).exports) (by omega)
       injection hv2 with ho h2 h3
       subst ho
       obtain ⟨x,hxk⟩:∃x,m.exports[j4]?=some x:=⟨_,List.getElem?_eq_getElem (by omega)⟩
       have HI:=hideR (hx j4 x hxk)
       have hz:=HX.out.exports x (List.mem_of_getElem? hxk)
       have HN:Hid (R=((nmD x.name && (decide (0<=x.kind/\x.kind<=3) && idx x.index)) && ((m.exports.drop (j4+1)).all dE && (m.elems.all dL && (m.datas.all dD && (m.tables.all shL && (m.mems.all shL && m.start.all idx))))))):=hideR (all_step hxk HK.out)
       clear hx hxk h2 h3 HK
       have k0:=HI.out.name
       go_wp2_with fail
       refine (refName _ _ hz).mono ?_
       rintro e u0 ⟨rfl,hu⟩
       obtain rfl:wr=u0:=hu.symm
       generalize nmD x.name=t40 at *
       cases t40 with
       | false =>
        obtain rfl:R=false:=HN.out
        clear HN
        go_wp2
        go_ret
        exact ⟨rfl,HS.out.bel⟩
       | true =>
        have k1:=HI.out.kind
        go_wp2_with fail
        refine (refIn _ _ _ _).mono ?_
        rintro e u1 ⟨rfl,hu⟩
        obtain rfl:wr=u1:=hu.symm
        generalize decide (0<=x.kind/\x.kind<=3)=t41 at *
        cases t41 with
        | false =>
         obtain rfl:R=false:=HN.out
         clear HN
         go_wp2
         go_ret
         exact ⟨rfl,HS.out.bel⟩
        | true =>
         have k2:=HI.out.index
         go_wp2_with fail
         refine (refIndex _ _).mono ?_
         rintro e u2 ⟨rfl,hu⟩
         obtain rfl:wr=u2:=hu.symm
         generalize idx x.index=t42 at *
         cases t42 with
         | false =>
          obtain rfl:R=false:=HN.out
          clear HN
          go_wp2
          go_ret
          exact ⟨rfl,HS.out.bel⟩
         | true =>
          have HN2:Hid (R=((m.exports.drop (j4+1)).all dE && (m.elems.all dL && (m.datas.all dD && (m.tables.all shL && (m.mems.all shL && m.start.all idx)))))):=hideR (by rw [HN.out];simp only [Bool.true_and])
          clear HN
          go_wp2
          go_roundw
          case rel=>exact ⟨j4+1,by omega,by go_num,HN2,HS⟩
          case measure=>simp [intOf];omega
      obtain rfl:n6=j4:=by omega
      have HR:=hideR (all_out (by omega) HK.out)
      clear HK
      obtain ⟨q0,q1,q2,q3,q4,q5,q6,q7,q8,q9,qb⟩:=HS.out
      clear qb
      go_wp2_with fail
      go_loopw [8] (fun i wr=>∃j:Nat,j<=n8/\i=.int .i64 j/\Hid (R=((m.elems.drop j).all dL && (m.datas.all dD && (m.tables.all shL && (m.mems.all shL && m.start.all idx)))))/\Hid (Box w (.slice o0 n0 c0) (.slice o1 n1 c1) (.slice o2 n2 c2) (.slice o3 n3 c3) (.slice o4 n4 c4) (.slice o5 n5 c5) (.slice o6 n6 c6) (.slice o7 n7 c7) (.slice o8 n8 c8) (.slice o9 n9 c9) wr)) (fun i _=>n8-(intOf i).toNat)
      case atStart=>exact ⟨0,by omega,rfl,HR,HS⟩
      case round =>
       obtain ⟨j5,hj,rfl,HK,HS⟩:=hrel
       by_cases hgo:j5<n8
       ·obtain ⟨q0,q1,q2,q3,q4,q5,q6,q7,q8,q9,qb⟩:=HS.out
        clear qb q0 q1 q2 q3 q4 q5 q6 q7 q9
        obtain ⟨b,off,cap2,hv2,hx⟩:=Row.some ((HM.out.on HS.out.bel).elems) (by omega)
        injection hv2 with ho h2 h3
        subst ho
        obtain ⟨x,hxk⟩:∃x,m.elems[j5]?=some x:=⟨_,List.getElem?_eq_getElem (by omega)⟩
        have HI:=hideR (hx j5 x hxk)
        have HN:Hid (R=(((cst x.offset.op && okF (form x.offset.op) x.offset.op x.offset.a x.offset.b x.offset.n x.offset.labels (size d x.offset.body) (size d x.offset.els)) && x.funcs.all idx) && ((m.elems.drop (j5+1)).all dL && (m.datas.all dD && (m.tables.all shL && (m.mems.all shL && m.start.all idx)))))):=hideR (all_step hxk HK.out)
        clear hx hxk h2 h3 HK
        obtain ⟨g0,g1,g2,g3,⟨lv,g4,a4⟩,⟨bv,g5,a5⟩,⟨ev,g6,a6⟩⟩:=HI.out.offset
        have k0:wr.cell? ⟨b,off+j5*8,none⟩=_:=g0
        have k1:wr.cell? ⟨b,off+j5*8+1,none⟩=_:=g1
        have k2:wr.cell? ⟨b,off+j5*8+2,none⟩=_:=g2
        have k3:wr.cell? ⟨b,off+j5*8+3,none⟩=_:=g3
        have k4:wr.cell? ⟨b,off+j5*8+4,none⟩=_:=g4
        have k5:wr.cell? ⟨b,off+j5*8+5,none⟩=_:=g5
        have k6:wr.cell? ⟨b,off+j5*8+6,none⟩=_:=g6
        clear g0 g1 g2 g3 g4 g5 g6
        obtain ⟨lo,lc,rfl⟩:=Row.len a4
        obtain ⟨bo,bc,rfl⟩:=At.len d bv _ a5
        obtain ⟨eo,ec,rfl⟩:=At.len d ev _ a6
        have A4:=hideR a4
        clear a4 a5 a6
        go_wp2_with fail
        refine (refConstant x.offset.op x.offset.a x.offset.b x.offset.n x.offset.labels lo bo eo _ _ lc bc ec _ A4.out).mono ?_
        rintro e u0 ⟨rfl,hb⟩
        have HS:=hideR (HS.out.on hb)
        have HI:=hideR (HI.out.on hb)
        clear hb q8 k0 k1 k2 k3 k4 k5 k6
        obtain ⟨q0,q1,q2,q3,q4,q5,q6,q7,q8,q9,qb⟩:=HS.out
        clear qb q0 q1 q2 q3 q4 q5 q6 q7 q9
        generalize (cst x.offset.op && okF (form x.offset.op) x.offset.op x.offset.a x.offset.b x.offset.n x.offset.labels (size d x.offset.body) (size d x.offset.els))=t50 at *
        cases t50 with
        | false =>
         obtain rfl:R=false:=HN.out
         clear HN
         go_wp2
         go_ret
         exact ⟨rfl,HS.out.bel⟩
        | true =>
         obtain ⟨vp,k7,ip⟩:=HI.out.funcs
         obtain ⟨op,cp,rfl⟩:=Row.len ip
         have IP:=hideR ip
         clear ip
         go_wp2_with fail
         refine (refIndices _ x.funcs _ IP.out).mono ?_
         rintro e u1 ⟨rfl,hu⟩
         obtain rfl:u0=u1:=hu.symm
         generalize x.funcs.all idx=t51 at *
         cases t51 with
         | false =>
          obtain rfl:R=false:=HN.out
          clear HN
          go_wp2
          go_ret
          exact ⟨rfl,HS.out.bel⟩
         | true =>
          have HN2:Hid (R=((m.elems.drop (j5+1)).all dL && (m.datas.all dD && (m.tables.all shL && (m.mems.all shL && m.start.all idx))))):=hideR (by rw [HN.out];simp only [Bool.true_and])
          clear HN
          go_wp2
          go_roundw
          case rel=>exact ⟨j5+1,by omega,by go_num,HN2,HS⟩
          case measure=>simp [intOf];omega
       obtain rfl:n8=j5:=by omega
       have HR:=hideR (all_out (by omega) HK.out)
       clear HK
       obtain ⟨q0,q1,q2,q3,q4,q5,q6,q7,q8,q9,qb⟩:=HS.out
       clear qb
       go_wp2_with fail
       go_loopw [9] (fun i wr=>∃j:Nat,j<=n9/\i=.int .i64 j/\Hid (R=((m.datas.drop j).all dD && (m.tables.all shL && (m.mems.all shL && m.start.all idx))))/\Hid (Box w (.slice o0 n0 c0) (.slice o1 n1 c1) (.slice o2 n2 c2) (.slice o3 n3 c3) (.slice o4 n4 c4) (.slice o5 n5 c5) (.slice o6 n6 c6) (.slice o7 n7 c7) (.slice o8 n8 c8) (.slice o9 n9 c9) wr)) (fun i _=>n9-(intOf i).toNat)
       case atStart=>exact ⟨0,by omega,rfl,HR,HS⟩
       case round =>
        obtain ⟨j6,hj,rfl,HK,HS⟩:=hrel
        by_cases hgo:j6<n9
        ·obtain ⟨q0,q1,q2,q3,q4,q5,q6,q7,q8,q9,qb⟩:=HS.out
         clear qb q0 q1 q2 q3 q4 q5 q6 q7 q8
         obtain ⟨b,off,cap2,hv2,hx⟩:=Row.some ((HM.out.on HS.out.bel).datas) (by omega)
         injection hv2 with ho h2 h3
         subst ho
         obtain ⟨x,hxk⟩:∃x,m.datas[j6]?=some x:=⟨_,List.getElem?_eq_getElem (by omega)⟩
         have HI:=hideR (hx j6 x hxk)
         have HN:Hid (R=((cst x.offset.op && okF (form x.offset.op) x.offset.op x.offset.a x.offset.b x.offset.n x.offset.labels (size d x.offset.body) (size d x.offset.els)) && ((m.datas.drop (j6+1)).all dD && (m.tables.all shL && (m.mems.all shL && m.start.all idx))))):=hideR (all_step hxk HK.out)
         clear hx hxk h2 h3 HK
         obtain ⟨g0,g1,g2,g3,⟨lv,g4,a4⟩,⟨bv,g5,a5⟩,⟨ev,g6,a6⟩⟩:=HI.out.offset
         have k0:wr.cell? ⟨b,off+j6*8,none⟩=_:=g0
         have k1:wr.cell? ⟨b,off+j6*8+1,none⟩=_:=g1
         have k2:wr.cell? ⟨b,off+j6*8+2,none⟩=_:=g2
         have k3:wr.cell? ⟨b,off+j6*8+3,none⟩=_:=g3
         have k4:wr.cell? ⟨b,off+j6*8+4,none⟩=_:=g4
         have k5:wr.cell? ⟨b,off+j6*8+5,none⟩=_:=g5
         have k6:wr.cell? ⟨b,off+j6*8+6,none⟩=_:=g6
         clear g0 g1 g2 g3 g4 g5 g6
         obtain ⟨lo,lc,rfl⟩:=Row.len a4
         obtain ⟨bo,bc,rfl⟩:=At.len d bv _ a5
         obtain ⟨eo,ec,rfl⟩:=At.len d ev _ a6
         have A4:=hideR a4
         clear a4 a5 a6
         go_wp2_with fail
         refine (refConstant x.offset.op x.offset.a x.offset.b x.offset.n x.offset.labels lo bo eo _ _ lc bc ec _ A4.out).mono ?_
         rintro e u0 ⟨rfl,hb⟩
         have HS:=hideR (HS.out.on hb)
         have HI:=hideR (HI.out.on hb)
         clear hb q9 k0 k1 k2 k3 k4 k5 k6
         obtain ⟨q0,q1,q2,q3,q4,q5,q6,q7,q8,q9,qb⟩:=HS.out
         clear qb q0 q1 q2 q3 q4 q5 q6 q7 q8
         generalize (cst x.offset.op && okF (form x.offset.op) x.offset.op x.offset.a x.offset.b x.offset.n x.offset.labels (size d x.offset.body) (size d x.offset.els))=t60 at *
         cases t60 with
         | false =>
          obtain rfl:R=false:=HN.out
          clear HN
          go_wp2
          go_ret
          exact ⟨rfl,HS.out.bel⟩
         | true =>
          have HN2:Hid (R=((m.datas.drop (j6+1)).all dD && (m.tables.all shL && (m.mems.all shL && m.start.all idx)))):=hideR (by rw [HN.out];simp only [Bool.true_and])
          clear HN
          go_wp2
          go_roundw
          case rel=>exact ⟨j6+1,by omega,by go_num,HN2,HS⟩
          case measure=>simp [intOf];omega
        obtain rfl:n9=j6:=by omega
        have HR:=hideR (all_out (by omega) HK.out)
        clear HK
        obtain ⟨q0,q1,q2,q3,q4,q5,q6,q7,q8,q9,qb⟩:=HS.out
        clear qb
        go_wp2_with fail
        refine (refLimits _ m.tables _ (HM.out.on HS.out.bel).tables).mono ?_
        rintro e u0 ⟨rfl,hu⟩
        obtain rfl:wr=u0:=hu.symm
        generalize m.tables.all shL=t1 at *
        cases t1 with
        | false =>
         obtain rfl:R=false:=HR.out
         clear HR
         go_wp2
         go_ret
         exact ⟨rfl,HS.out.bel⟩
        | true =>
         go_wp2_with fail
         refine (refLimits _ m.mems _ (HM.out.on HS.out.bel).mems).mono ?_
         rintro e u0 ⟨rfl,hu⟩
         obtain rfl:wr=u0:=hu.symm
         generalize m.mems.all shL=t1 at *
         cases t1 with
         | false =>
          obtain rfl:R=false:=HR.out
          clear HR
          go_wp2
          go_ret
          exact ⟨rfl,HS.out.bel⟩
         | true =>
          go_wp2_with fail
          refine (refIndices _ m.start _ (HM.out.on HS.out.bel).start).mono ?_
          rintro e u0 ⟨rfl,hu⟩
          obtain rfl:wr=u0:=hu.symm
          have HR2:Hid (R=m.start.all idx):=hideR (by rw [HR.out];simp only [Bool.true_and])
          rw [<- HR2.out]
          clear HR HR2
          go_wp2
          go_ret
          exact ⟨rfl,HS.out.bel⟩
end Go.Proofs.YtlcpagiljfpbpaaGreatDoor

