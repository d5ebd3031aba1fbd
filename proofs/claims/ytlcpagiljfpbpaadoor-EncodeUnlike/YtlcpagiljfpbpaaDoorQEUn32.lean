/- Texts that the claim needs. -/
import Derived.Test.YtlcpagiljfpbpaaDoorQEUn30
import Derived.Test.YtlcpagiljfpbpaaDoorQEUn4
import Derived.Test.YtlcpagiljfpbpaaDoorQEUn31
import Derived.Lib.ValidU
namespace Go.Proofs.YtlcpagiljfpbpaaDoor
open Go.RowKit Rep
set_option linter.unusedVariables false
theorem assert_yes (k:Int) (w:World):(Instr.typeAssert (.iface 35 (.int .i64 k)) 20 35 true).run Tryd.prog w=.ok (.tuple #[.int .i64 k,.bool true]) w:=by
 kernel_rfl
theorem assert_no (w:World):(Instr.typeAssert .nilIface 20 35 true).run Tryd.prog w=.ok (.tuple #[.int .i64 0,.bool false]) w:=by
 kernel_rfl
theorem checkCatch (p:Addr) (x k:Int) (older:List PanicEntry) (w:World) (hc:w.cell? p=some (.int .i64 x)) (hz:w.frozen? p=false) :
  CallsD Tryd.prog 23 #[.pointer (some p)] (.panicking ({ v:=.iface 35 (.int .i64 k),recovered:=false } :: older)) w fun e u' w' =>
   e=.returned (.tuple #[])/\u'=.panicking ({ v:=.iface 35 (.int .i64 k),recovered:=true } :: older)/\w'=w.setCell p (.int .i64 k):=by
 refine callsD_of_wpS Tryd.func23 rfl fun c₀ cs hu=>?_
 apply wpS_seq
 apply wpS_region
 simp [wpOpsS,go_sem,recoverD,hu,Tryd.ntmps23,Exit.thenS,assert_yes]
 apply wpS_seq
 apply wpS_region
 simp [wpOpsS,go_sem,Exit.thenS]
 refine wpS_cond (t:=true) (by simp [Act.eval,Array.replicate]) ?_
 simp only [if_true]
 apply wpS_region
 simp [wpOpsS,go_sem,hc,hz,bodyPostS,results,Tryd.results23]
theorem checkIdle (p:Addr) (w:World) :
  CallsD Tryd.prog 23 #[.pointer (some p)] .returning w fun e u' w'=>e=.returned (.tuple #[])/\u'=.returning/\w'=w:=by
 refine callsD_of_wpS Tryd.func23 rfl fun c₀ cs hu=>?_
 apply wpS_seq
 apply wpS_region
 simp [wpOpsS,go_sem,recoverD,hu,Tryd.ntmps23,Exit.thenS,assert_no]
 apply wpS_seq
 apply wpS_region
 simp [wpOpsS,go_sem,Exit.thenS]
 refine wpS_cond (t:=false) (by simp [Act.eval,Array.replicate]) ?_
 simp only [Bool.false_eq_true,if_false]
 refine wpS_of_wp (wp_skip ?_)
 cases c₀
 simp_all [bodyPostS,results,Tryd.results23]
namespace Rep
def nm (s:ByteArray):Bool:=decide ((s.size:Int)<=64) && Lib.validD s.data.toList
def cstOk {d:Nat} (x:Ins (IL d)):Bool:=cst x.op && okS (sn x)
def shT (t:FT):Bool:=t.params.all typ && t.results.all typ
def shI (i:Imp):Bool:=(nm i.mod && (nm i.name && true)) && (idx i.type && true)
def shF {d:Nat} (f:Fun d):Bool:=(idx f.type && true) && f.locals.all typ
def shL (l:Lim):Bool:=(idx l.min && (idx l.max && true)) && (l.has || l.max == 0)
def shG {d:Nat} (g:Glo d):Bool:=(typ g.type && true) && cstOk g.init
def shE (e:Exp):Bool:=(nm e.name && true) && ((decide (0<=e.kind) && decide (e.kind<=3)) && (idx e.index && true))
def shM {d:Nat} (m:Mod d):Bool :=
 m.types.all shT && (m.imports.all shI && (m.funcs.all shF && ((m.tables++m.mems).all shL && (m.globals.all shG && (m.exports.all shE && (m.start.all idx && (m.elems.all (fun e=>cstOk e.offset && e.funcs.all idx) && m.datas.all fun x=>cstOk x.offset)))))))
def chk {d:Nat} (m:Mod d):Int :=
 if fewM m=true then
  match goF stepCount d m.funcs 0 with
  | none=>3
  | some _ =>
   match goF stepLabels d m.funcs () with
   | none=>3
   | some _ =>
    match goF stepDepth d m.funcs () with
    | none=>4
    | some _ =>
     if shM m=true then
      match goF stepForm d m.funcs () with
      | none=>30
      | some _=>0
     else 30
 else 3
structure CkSt (w:World) (v0 v1 v2 v3 v4 v5 v6 v7 v8 v9:Value) (u:World):Prop where
 box:Box w v0 v1 v2 v3 v4 v5 v6 v7 v8 v9 u
 err:u.cell? ⟨w.heap.size+1,0,none⟩=some (.int .i64 0)
 fz:u.frozen? ⟨w.heap.size+1,0,none⟩=false
theorem CkSt.on {w:World} {v0 v1 v2 v3 v4 v5 v6 v7 v8 v9:Value} {u u':World} (hb:Below u.heap.size u u') (h:CkSt w v0 v1 v2 v3 v4 v5 v6 v7 v8 v9 u):CkSt w v0 v1 v2 v3 v4 v5 v6 v7 v8 v9 u' :=
 ⟨h.box.on hb,cell_on hb h.err,(hb.frozen (p:=⟨w.heap.size+1,0,none⟩) (World.block_lt_of_cell? _ _ h.err)).trans h.fz⟩
theorem CkSt.start (w:World) (t t2:TypeId) (v0 v1 v2 v3 v4 v5 v6 v7 v8 v9:Value):CkSt w v0 v1 v2 v3 v4 v5 v6 v7 v8 v9 ((w.alloc (.cells #[v0,v1,v2,v3,v4,v5,v6,v7,v8,v9] t)).alloc (.cells #[.int .i64 0] t2)) :=
 ⟨(Box.start w t v0 v1 v2 v3 v4 v5 v6 v7 v8 v9).new _,by rw [World.cell?_alloc_at _ _ _ _ (by simp)];rfl,by rw [World.frozen?_alloc_at _ _ _ _ (by simp)]⟩
end Rep
set_option maxHeartbeats 4000000 in
theorem pCheck {I:World->Prop} (C:FormC I) (d:Nat) (hd:d<=4611686018427387904) (v0 v1 v2 v3 v4 v5 v6 v7 v8 v9:Value) (m:Mod d) (w:World) (hI:I w) (hM:ModAt w d v0 v1 v2 v3 v4 v5 v6 v7 v8 v9 m) (hsz:∀x ∈ m.datas,x.bytes.size<=9223372036854775807)
  (hSh:fewM m=true->∀w',Below w.heap.size w w'->Calls Tryd.prog 31 #[.agg #[v0,v1,v2,v3,v4,v5,v6,v7,v8,v9]] w' fun e u=>Needs (shM m) 30 e/\Below w'.heap.size w' u) :
  Calls Tryd.prog 13 #[.agg #[v0,v1,v2,v3,v4,v5,v6,v7,v8,v9]] w fun e w'=>e=.returned (.int .i64 (chk m))/\Below w.heap.size w w':=by
 have HT:=hideM hM.ten
 have HM:=hideM hM
 have HII:=hideM hI
 have HFew:=hideM fun (w':World) (h:Below w.heap.size w w')=>pneedFew d v0 v1 v2 v3 v4 v5 v6 v7 v8 v9 m w' (hM.on h) hsz
 have HCnt:=hideM fun (w':World) (h:Below w.heap.size w w')=>pcountInstructions d hd v0 v1 v2 v3 v4 v5 v6 v7 v8 v9 m.funcs w' (hM.on h).funcs hM.ten
 have HLab:=hideM fun (w':World) (h:Below w.heap.size w w')=>pWalkMB w' (fun _=>False) (fun _ hh=>hh.elim) (fun (_:Unit) _=>True) (fun _ _ _ _ _=>trivial) stepLabels 3 (seeLabels w') d hd v0 v1 v2 v3 v4 v5 v6 v7 v8 v9 m.funcs () w' (hM.on h).funcs hM.ten (Below.refl _ _) trivial (fun _ hh=>hh.elim)
 have HDep:=hideM fun (w':World) (h:Below w.heap.size w w')=>pWalkMC w' (fun _=>False) (fun _ hh=>hh.elim) (fun (_:Unit) _=>True) (fun _ _ _ _ _=>trivial) stepDepth 4 (seeDepth w') d hd v0 v1 v2 v3 v4 v5 v6 v7 v8 v9 m.funcs () w' (hM.on h).funcs hM.ten (Below.refl _ _) trivial (fun _ hh=>hh.elim)
 have HFor:=hideM fun (w':World) (h:Below w.heap.size w w')=>pWalkMD w' (fun _=>False) (fun _ hh=>hh.elim) (fun (_:Unit) u=>I u) (fun _ _ _ hb hi=>C.keep hb hi) stepForm 30 (seeForm C w') d hd v0 v1 v2 v3 v4 v5 v6 v7 v8 v9 m.funcs () w' (hM.on h).funcs hM.ten (Below.refl _ _) (C.keep h hI) (fun _ hh=>hh.elim)
 have HSh:=hideM hSh
 have HS0:=hideM (CkSt.start w 32 35 v0 v1 v2 v3 v4 v5 v6 v7 v8 v9)
 obtain ⟨R,hR⟩:∃R,R=chk m:=⟨_,rfl⟩
 rw [<- hR]
 unfold chk at hR
 have HR:=hideM hR
 obtain ⟨o2,n2,c2,rfl⟩:=Row.slice hM.funcs
 obtain ⟨⟨o0,n0,c0,rfl⟩,⟨o1,n1,c1,rfl⟩,⟨o3,n3,c3,rfl⟩,⟨o4,n4,c4,rfl⟩,⟨o5,n5,c5,rfl⟩,⟨o6,n6,c6,rfl⟩,⟨o7,n7,c7,rfl⟩,⟨o8,n8,c8,rfl⟩,⟨o9,n9,c9,rfl⟩⟩:=hM.ten
 clear hM hR hsz hSh hI
 generalize fewM m=r1 at *
 generalize goF stepCount d m.funcs 0=r2 at *
 generalize goF stepLabels d m.funcs ()=r3 at *
 generalize goF stepDepth d m.funcs ()=r4 at *
 generalize shM m=r5 at *
 generalize goF stepForm d m.funcs ()=r6 at *
 have hmf:∀(fn:Fn) (first cap:Array Value) (w:World),(Instr.makeFunc fn first cap).run Tryd.prog w=.ok (.func fn first cap) w:=fun _ _ _ _=>rfl
 go_enter_defers Tryd.func13,Tryd.ntmps13
 go_upto_region 2 with fail
 obtain ⟨wb,hwb⟩:∃wb,wb=(w.alloc (.cells #[.slice o0 n0 c0,.slice o1 n1 c1,.slice o2 n2 c2,.slice o3 n3 c3,.slice o4 n4 c4,.slice o5 n5 c5,.slice o6 n6 c6,.slice o7 n7 c7,.slice o8 n8 c8,.slice o9 n9 c9] 32)).alloc (.cells #[.int .i64 0] 35):=⟨_,rfl⟩
 rw [<- hwb]
 rw [<- hwb] at HS0
 clear hwb
 obtain ⟨⟨q0,q1,q2,q3,q4,q5,q6,q7,q8,q9,qb⟩,qe,qz⟩:=HS0.out
 clear qb
 go_wp2_with fail
 refine (HFew.out _ HS0.out.box.bel).mono ?_
 rintro e w1 ⟨hN,hbb⟩
 have HS1:=hideM (HS0.out.on hbb)
 clear hbb q0 q1 q2 q3 q4 q5 q6 q7 q8 q9 qe qz HS0 HFew
 rcases hN with ⟨rfl,rfl⟩|⟨rfl,rfl⟩
 rotate_left
 ·have HF:R=3:=by rw [HR.out];rfl
  obtain ⟨_,qe,qz⟩:=HS1.out
  have HQB:=hideM HS1.out.box.bel
  clear HR
  subst HF
  go_wp2_with fail
  refine leaves_cons (f:=23) (args:=#[.pointer (some ⟨w.heap.size+1,0,none⟩)]) (by simp) (by simp [go_sem]) ?_
  refine (checkCatch ⟨w.heap.size+1,0,none⟩ 0 3 [] _ qe qz).mono ?_
  rintro e u' w'' ⟨rfl,rfl,rfl⟩
  simp [Leaves,settle,results,Tryd.results13,go_sem,qe]
  exact below_set HQB.out 0 _
 obtain ⟨⟨q0,q1,q2,q3,q4,q5,q6,q7,q8,q9,qb⟩,qe,qz⟩:=HS1.out
 clear qb
 go_wp2_with fail
 refine (HCnt.out _ HS1.out.box.bel).mono ?_
 rintro e w2 ⟨hbb,hN⟩
 have HS2:=hideM (HS1.out.on hbb)
 clear hbb q0 q1 q2 q3 q4 q5 q6 q7 q8 q9 qe qz HS1 HCnt
 rcases hN with ⟨cc,rfl,hcc,rfl⟩|⟨rfl,rfl⟩
 rotate_left
 ·have HF:R=3:=by rw [HR.out];rfl
  obtain ⟨_,qe,qz⟩:=HS2.out
  have HQB:=hideM HS2.out.box.bel
  clear HR
  subst HF
  go_wp2_with fail
  refine leaves_cons (f:=23) (args:=#[.pointer (some ⟨w.heap.size+1,0,none⟩)]) (by simp) (by simp [go_sem]) ?_
  refine (checkCatch ⟨w.heap.size+1,0,none⟩ 0 3 [] _ qe qz).mono ?_
  rintro e u' w'' ⟨rfl,rfl,rfl⟩
  simp [Leaves,settle,results,Tryd.results13,go_sem,qe]
  exact below_set HQB.out 0 _
 obtain ⟨⟨q0,q1,q2,q3,q4,q5,q6,q7,q8,q9,qb⟩,qe,qz⟩:=HS2.out
 clear qb
 go_wp2_with fail
 refine (HLab.out _ HS2.out.box.bel).mono ?_
 rintro e w3 ⟨hkk,hN⟩
 have hbb:=Kp.to_below hkk
 clear hkk
 have HS3:=hideM (HS2.out.on hbb)
 clear hbb q0 q1 q2 q3 q4 q5 q6 q7 q8 q9 qe qz HS2 HLab
 rcases hN with ⟨ss,rfl,rfl,_⟩|⟨rfl,rfl⟩
 rotate_left
 ·have HF:R=3:=by rw [HR.out];rfl
  obtain ⟨_,qe,qz⟩:=HS3.out
  have HQB:=hideM HS3.out.box.bel
  clear HR
  subst HF
  go_wp2_with fail
  refine leaves_cons (f:=23) (args:=#[.pointer (some ⟨w.heap.size+1,0,none⟩)]) (by simp) (by simp [go_sem]) ?_
  refine (checkCatch ⟨w.heap.size+1,0,none⟩ 0 3 [] _ qe qz).mono ?_
  rintro e u' w'' ⟨rfl,rfl,rfl⟩
  simp [Leaves,settle,results,Tryd.results13,go_sem,qe]
  exact below_set HQB.out 0 _
 obtain ⟨⟨q0,q1,q2,q3,q4,q5,q6,q7,q8,q9,qb⟩,qe,qz⟩:=HS3.out
 clear qb
 go_wp2_with fail
 refine (HDep.out _ HS3.out.box.bel).mono ?_
 rintro e w4 ⟨hkk,hN⟩
 have hbb:=Kp.to_below hkk
 clear hkk
 have HS4:=hideM (HS3.out.on hbb)
 clear hbb q0 q1 q2 q3 q4 q5 q6 q7 q8 q9 qe qz HS3 HDep
 rcases hN with ⟨ss,rfl,rfl,_⟩|⟨rfl,rfl⟩
 rotate_left
 ·have HF:R=4:=by rw [HR.out];rfl
  obtain ⟨_,qe,qz⟩:=HS4.out
  have HQB:=hideM HS4.out.box.bel
  clear HR
  subst HF
  go_wp2_with fail
  refine leaves_cons (f:=23) (args:=#[.pointer (some ⟨w.heap.size+1,0,none⟩)]) (by simp) (by simp [go_sem]) ?_
  refine (checkCatch ⟨w.heap.size+1,0,none⟩ 0 4 [] _ qe qz).mono ?_
  rintro e u' w'' ⟨rfl,rfl,rfl⟩
  simp [Leaves,settle,results,Tryd.results13,go_sem,qe]
  exact below_set HQB.out 0 _
 obtain ⟨⟨q0,q1,q2,q3,q4,q5,q6,q7,q8,q9,qb⟩,qe,qz⟩:=HS4.out
 clear qb
 go_wp2_with fail
 refine (HSh.out (by first|trivial|rfl) _ HS4.out.box.bel).mono ?_
 rintro e w5 ⟨hN,hbb⟩
 have HS5:=hideM (HS4.out.on hbb)
 clear hbb q0 q1 q2 q3 q4 q5 q6 q7 q8 q9 qe qz HS4 HSh
 rcases hN with ⟨rfl,rfl⟩|⟨rfl,rfl⟩
 rotate_left
 ·have HF:R=30:=by rw [HR.out];rfl
  obtain ⟨_,qe,qz⟩:=HS5.out
  have HQB:=hideM HS5.out.box.bel
  clear HR
  subst HF
  go_wp2_with fail
  refine leaves_cons (f:=23) (args:=#[.pointer (some ⟨w.heap.size+1,0,none⟩)]) (by simp) (by simp [go_sem]) ?_
  refine (checkCatch ⟨w.heap.size+1,0,none⟩ 0 30 [] _ qe qz).mono ?_
  rintro e u' w'' ⟨rfl,rfl,rfl⟩
  simp [Leaves,settle,results,Tryd.results13,go_sem,qe]
  exact below_set HQB.out 0 _
 obtain ⟨⟨q0,q1,q2,q3,q4,q5,q6,q7,q8,q9,qb⟩,qe,qz⟩:=HS5.out
 clear qb
 go_wp2_with fail
 refine (HFor.out _ HS5.out.box.bel).mono ?_
 rintro e w6 ⟨hkk,hN⟩
 have hbb:=Kp.to_below hkk
 clear hkk
 have HS6:=hideM (HS5.out.on hbb)
 clear hbb q0 q1 q2 q3 q4 q5 q6 q7 q8 q9 qe qz HS5 HFor
 rcases hN with ⟨ss,rfl,rfl,_⟩|⟨rfl,rfl⟩
 rotate_left
 ·have HF:R=30:=by rw [HR.out];rfl
  obtain ⟨_,qe,qz⟩:=HS6.out
  have HQB:=hideM HS6.out.box.bel
  clear HR
  subst HF
  go_wp2_with fail
  refine leaves_cons (f:=23) (args:=#[.pointer (some ⟨w.heap.size+1,0,none⟩)]) (by simp) (by simp [go_sem]) ?_
  refine (checkCatch ⟨w.heap.size+1,0,none⟩ 0 30 [] _ qe qz).mono ?_
  rintro e u' w'' ⟨rfl,rfl,rfl⟩
  simp [Leaves,settle,results,Tryd.results13,go_sem,qe]
  exact below_set HQB.out 0 _
 have HF:R=0:=by rw [HR.out];rfl
 obtain ⟨_,qe,qz⟩:=HS6.out
 have HQB:=hideM HS6.out.box.bel
 clear HR
 subst HF
 go_wp2_with fail
 refine leaves_cons (f:=23) (args:=#[.pointer (some ⟨w.heap.size+1,0,none⟩)]) (by simp) (by simp [go_sem]) ?_
 refine (checkIdle ⟨w.heap.size+1,0,none⟩ _).mono ?_
 rintro e u' w'' ⟨rfl,rfl,rfl⟩
 simp [Leaves,settle,results,Tryd.results13,go_sem,qe]
 exact below_set HQB.out 0 _
end Go.Proofs.YtlcpagiljfpbpaaDoor

