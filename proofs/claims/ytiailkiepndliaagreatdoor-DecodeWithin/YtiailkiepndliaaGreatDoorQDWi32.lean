/- Texts that the claim needs. -/
import Derived.Test.YtiailkiepndliaaGreatDoorQDWi31
import Derived.Test.YtiailkiepndliaaGreatDoorQDWi24
import Derived.Lib.ValidU
import Derived.Test.YtiailkiepndliaaGreatDoorQDWi8
namespace Go.Proofs.YtiailkiepndliaaGreatDoor
open Go.RowKit Rep
set_option linter.unusedVariables false
theorem assert_yes (k:Int) (w:World):(Instr.typeAssert (.iface 38 (.int .i64 k)) 20 38 true).run Tryz.prog w=.ok (.tuple #[.int .i64 k,.bool true]) w:=by
 kernel_rfl
theorem assert_no (w:World):(Instr.typeAssert .nilIface 20 38 true).run Tryz.prog w=.ok (.tuple #[.int .i64 0,.bool false]) w:=by
 kernel_rfl
theorem checkCatch (p:Addr) (x k:Int) (older:List PanicEntry) (w:World) (hc:w.cell? p=some (.int .i64 x)) (hz:w.frozen? p=false) :
  CallsD Tryz.prog 23 #[.pointer (some p)] (.panicking ({ v:=.iface 38 (.int .i64 k),recovered:=false } :: older)) w fun e u' w' =>
   e=.returned (.tuple #[])/\u'=.panicking ({ v:=.iface 38 (.int .i64 k),recovered:=true } :: older)/\w'=w.setCell p (.int .i64 k):=by
 refine callsD_of_wpS Tryz.func23 rfl fun c₀ cs hu=>?_
 apply wpS_seq
 apply wpS_region
 simp [wpOpsS,go_sem,recoverD,hu,Tryz.ntmps23,Exit.thenS,assert_yes]
 apply wpS_seq
 apply wpS_region
 simp [wpOpsS,go_sem,Exit.thenS]
 refine wpS_cond (t:=true) (by simp [Act.eval,Array.replicate]) ?_
 simp only [if_true]
 apply wpS_region
 simp [wpOpsS,go_sem,hc,hz,bodyPostS,results,Tryz.results23]
theorem checkIdle (p:Addr) (w:World) :
  CallsD Tryz.prog 23 #[.pointer (some p)] .returning w fun e u' w'=>e=.returned (.tuple #[])/\u'=.returning/\w'=w:=by
 refine callsD_of_wpS Tryz.func23 rfl fun c₀ cs hu=>?_
 apply wpS_seq
 apply wpS_region
 simp [wpOpsS,go_sem,recoverD,hu,Tryz.ntmps23,Exit.thenS,assert_no]
 apply wpS_seq
 apply wpS_region
 simp [wpOpsS,go_sem,Exit.thenS]
 refine wpS_cond (t:=false) (by simp [Act.eval,Array.replicate]) ?_
 simp only [Bool.false_eq_true,if_false]
 refine wpS_of_wp (wp_skip ?_)
 cases c₀
 simp_all [bodyPostS,results,Tryz.results23]
namespace Rep
def cstOk {d:Nat} (x:Ins (IL d)):Bool:=cst x.op && okS (sn x)
def shT (t:FT):Bool:=t.params.all typ && t.results.all typ
def shI (i:Imp):Bool:=(nm i.mod && (nm i.name && true)) && (idx i.type && true)
def shF {d:Nat} (f:Fun d):Bool:=(idx f.type && true) && f.locals.all typ
def shL (l:Lim):Bool:=(idx l.min && (idx l.max && true)) && (l.has || l.max == 0)
def shG {d:Nat} (g:Glo d):Bool:=(typ g.type && true) && cstOk g.init
def shE (e:Exp):Bool:=(nm e.name && true) && ((decide (0<=e.kind) && decide (e.kind<=3)) && (idx e.index && true))
def shM {d:Nat} (m:Mod d):Bool :=
 m.types.all shT && (m.imports.all shI && (m.funcs.all shF && ((m.tables++m.mems).all shL && (m.globals.all shG && (m.exports.all shE && (m.start.all idx && (m.elems.all (fun e=>cstOk e.offset && e.funcs.all idx) && m.datas.all fun x=>cstOk x.offset)))))))
def chk {d:Nat} (m:Mod d):Int :=
 if fewM m=true then
  match goF stepCount d m.funcs 0 with
  | none=>3
  | some _ =>
   match goF stepLabels d m.funcs () with
   | none=>3
   | some _ =>
    match goF stepDepth d m.funcs () with
    | none=>4
    | some _ =>
     if shM m=true then
      match goF stepForm d m.funcs () with
      | none=>30
      | some _=>0
     else 30
 else 3
structure CkSt (w:World) (v0 v1 v2 v3 v4 v5 v6 v7 v8 v9:Value) (u:World):Prop where
 box:Box w v0 v1 v2 v3 v4 v5 v6 v7 v8 v9 u
 err:u.cell? ⟨w.heap.size+1,0,none⟩=some (.int .i64 0)
 fz:u.frozen? ⟨w.heap.size+1,0,none⟩=false
theorem CkSt.on {w:World} {v0 v1 v2 v3 v4 v5 v6 v7 v8 v9:Value} {u u':World} (hb:Below u.heap.size u u') (h:CkSt w v0 v1 v2 v3 v4 v5 v6 v7 v8 v9 u):CkSt w v0 v1 v2 v3 v4 v5 v6 v7 v8 v9 u' :=
 ⟨h.box.on hb,cell_on hb h.err,(hb.frozen (p:=⟨w.heap.size+1,0,none⟩) (World.block_lt_of_cell? _ _ h.err)).trans h.fz⟩
theorem CkSt.start (w:World) (t t2:TypeId) (v0 v1 v2 v3 v4 v5 v6 v7 v8 v9:Value):CkSt w v0 v1 v2 v3 v4 v5 v6 v7 v8 v9 ((w.alloc (.cells #[v0,v1,v2,v3,v4,v5,v6,v7,v8,v9] t)).alloc (.cells #[.int .i64 0] t2)) :=
 ⟨(Box.start w t v0 v1 v2 v3 v4 v5 v6 v7 v8 v9).new _,by rw [World.cell?_alloc_at _ _ _ _ (by simp)];rfl,by rw [World.frozen?_alloc_at _ _ _ _ (by simp)]⟩
end Rep
set_option maxHeartbeats 4000000 in
theorem pCheck {I:World->Prop} (C:FormC I) (d:Nat) (hd:d<=4611686018427387904) (v0 v1 v2 v3 v4 v5 v6 v7 v8 v9:Value) (m:Mod d) (w:World) (hI:I w) (hM:ModAt w d v0 v1 v2 v3 v4 v5 v6 v7 v8 v9 m) (hsz:∀x ∈ m.datas,x.bytes.size<=9223372036854775807)
  (hSh:fewM m=true->∀w',Below w.heap.size w w'->Calls Tryz.prog 31 #[.agg #[v0,v1,v2,v3,v4,v5,v6,v7,v8,v9]] w' fun e u=>Needs (shM m) 30 e/\Below w'.heap.size w' u) :
  Calls Tryz.prog 12 #[.agg #[v0,v1,v2,v3,v4,v5,v6,v7,v8,v9]] w fun e w'=>e=.returned (.int .i64 (chk m))/\Below w.heap.size w w':=by
 have HT:=hideM hM.ten
 have HM:=hideM hM
 have HII:=hideM hI
 have HFew:=hideM fun (w':World) (h:Below w.heap.size w w')=>pneedFew d v0 v1 v2 v3 v4 v5 v6 v7 v8 v9 m w' (hM.on h) hsz
 have HCnt:=hideM fun (w':World) (h:Below w.heap.size w w')=>pcountInstructions d hd v0 v1 v2 v3 v4 v5 v6 v7 v8 v9 m.funcs w' (hM.on h).funcs hM.ten
 have HLab:=hideM fun (w':World) (h:Below w.heap.size w w')=>pWalkMB w' (fun _=>False) (fun _ hh=>hh.elim) (fun (_:Unit) _=>True) (fun _ _ _ _ _=>trivial) stepLabels 3 (seeLabels w') d hd v0 v1 v2 v3 v4 v5 v6 v7 v8 v9 m.funcs () w' (hM.on h).funcs hM.ten (Below.refl _ _) trivial (fun _ hh=>hh.elim)
 have HDep:=hideM fun (w':World) (h:Below w.heap.size w w')=>pWalkMC w' (fun _=>False) (fun _ hh=>hh.elim) (fun (_:Unit) _=>True) (fun _ _ _ _ _=>trivial) stepDepth 4 (seeDepth w') d hd v0 v1 v2 v3 v4 v5 v6 v7 v8 v9 m.funcs () w' (hM.on h).funcs hM.ten (Below.refl _ _) trivial (fun _ hh=>hh.elim)
 have HFor:=hideM fun (w':World) (h:Below w.heap.size w w')=>pWalkMD w' (fun _=>False) (fun _ hh=>hh.elim) (fun (_:Unit) u=>I u) (fun _ _ _ hb hi=>C.keep hb hi) stepForm 30 (seeForm C w') d hd v0 v1 v2 v3 v4 v5 v6 v7 v8 v9 m.funcs () w' (hM.on h).funcs hM.ten (Below.refl _ _) (C.keep h hI) (fun _ hh=>hh.elim)
 have HSh:=hideM hSh
 have HS0:=hideM (CkSt.start w 36 38 v0 v1 v2 v3 v4 v5 v6 v7 v8 v9)
 obtain ⟨R,hR⟩:∃R,R=chk m:=⟨_,rfl⟩
 rw [<- hR]
 unfold chk at hR
 have HR:=hideM hR
 obtain ⟨o2,n2,c2,rfl⟩:=Row.slice hM.funcs
 obtain ⟨⟨o0,n0,c0,rfl⟩,⟨o1,n1,c1,rfl⟩,⟨o3,n3,c3,rfl⟩,⟨o4,n4,c4,rfl⟩,⟨o5,n5,c5,rfl⟩,⟨o6,n6,c6,rfl⟩,⟨o7,n7,c7,rfl⟩,⟨o8,n8,c8,rfl⟩,⟨o9,n9,c9,rfl⟩⟩:=hM.ten
 clear hM hR hsz hSh hI
 generalize fewM m=r1 at *
 generalize goF stepCount d m.funcs 0=r2 at *
 generalize goF stepLabels d m.funcs ()=r3 at *
 generalize goF stepDepth d m.funcs ()=r4 at *
 generalize shM m=r5 at *
 generalize goF stepForm d m.funcs ()=r6 at *
 have hmf:∀(fn:Fn) (first cap:Array Value) (w:World),(Instr.makeFunc fn first cap).run Tryz.prog w=.ok (.func fn first cap) w:=fun _ _ _ _=>rfl
 go_enter_defers Tryz.func12,Tryz.ntmps12
 go_upto_region 2 with fail
 obtain ⟨wb,hwb⟩:∃wb,wb=(w.alloc (.cells #[.slice o0 n0 c0,.slice o1 n1 c1,.slice o2 n2 c2,.slice o3 n3 c3,.slice o4 n4 c4,.slice o5 n5 c5,.slice o6 n6 c6,.slice o7 n7 c7,.slice o8 n8 c8,.slice o9 n9 c9] 36)).alloc (.cells #[.int .i64 0] 38):=⟨_,rfl⟩
 rw [<- hwb]
 rw [<- hwb] at HS0
 clear hwb
 obtain ⟨⟨q0,q1,q2,q3,q4,q5,q6,q7,q8,q9,qb⟩,qe,qz⟩:=HS0.out
 clear qb
 go_wp2_with fail
 refine (HFew.out _ HS0.out.box.bel).mono ?_
 rintro e w1 ⟨hN,hbb⟩
 have HS1:=hideM (HS0.out.on hbb)
 clear hbb q0 q1 q2 q3 q4 q5 q6 q7 q8 q9 qe qz HS0 HFew
 rcases hN with ⟨rfl,rfl⟩|⟨rfl,rfl⟩
 rotate_left
 ·have HF:R=3:=by rw [HR.out];rfl
  obtain ⟨_,qe,qz⟩:=HS1.out
  have HQB:=hideM HS1.out.box.bel
  clear HR
  subst HF
  go_wp2_with fail
  refine leaves_cons (f:=23) (args:=#[.pointer (some ⟨w.heap.size+1,0,none⟩)]) (by simp) (by simp [go_sem]) ?_
  refine (checkCatch ⟨w.heap.size+1,0,none⟩ 0 3 [] _ qe qz).mono ?_
  rintro e u' w'' ⟨rfl,rfl,rfl⟩
  simp [Leaves,settle,results,Tryz.results12,go_sem,qe]
  exact below_set HQB.out 0 _
 obtain ⟨⟨q0,q1,q2,q3,q4,q5,q6,q7,q8,q9,qb⟩,qe,qz⟩:=HS1.out
 clear qb
 go_wp2_with fail
 refine (HCnt.out _ HS1.out.box.bel).mono ?_
 rintro e w2 ⟨hbb,hN⟩
 have HS2:=hideM (HS1.out.on hbb)
 clear hbb q0 q1 q2 q3 q4 q5 q6 q7 q8 q9 qe qz HS1 HCnt
 rcases hN with ⟨cc,rfl,hcc,rfl⟩|⟨rfl,rfl⟩
 rotate_left
 ·have HF:R=3:=by rw [HR.out];rfl
  obtain ⟨_,qe,qz⟩:=HS2.out
  have HQB:=hideM HS2.out.box.bel
  clear HR
  subst HF
  go_wp2_with fail
  refine leaves_cons (f:=23) (args:=#[.pointer (some ⟨w.heap.size+1,0,none⟩)]) (by simp) (by simp [go_sem]) ?_
  refine (checkCatch ⟨w.heap.size+1,0,none⟩ 0 3 [] _ qe qz).mono ?_
  rintro e u' w'' ⟨rfl,rfl,rfl⟩
  simp [Leaves,settle,results,Tryz.results12,go_sem,qe]
  exact below_set HQB.out 0 _
 obtain ⟨⟨q0,q1,q2,q3,q4,q5,q6,q7,q8,q9,qb⟩,qe,qz⟩:=HS2.out
 clear qb
 go_wp2_with fail
 refine (HLab.out _ HS2.out.box.bel).mono ?_
 rintro e w3 ⟨hkk,hN⟩
 have hbb:=Kp.to_below hkk
 clear hkk
 have HS3:=hideM (HS2.out.on hbb)
 clear hbb q0 q1 q2 q3 q4 q5 q6 q7 q8 q9 qe qz HS2 HLab
 rcases hN with ⟨ss,rfl,rfl,_⟩|⟨rfl,rfl⟩
 rotate_left
 ·have HF:R=3:=by rw [HR.out];rfl
  obtain ⟨_,qe,qz⟩:=HS3.out
  have HQB:=hideM HS3.out.box.bel
  clear HR
  subst HF
  go_wp2_with fail
  refine leaves_cons (f:=23) (args:=#[.pointer (some ⟨w.heap.size+1,0,none⟩)]) (by simp) (by simp [go_sem]) ?_
  refine (checkCatch ⟨w.heap.size+1,0,none⟩ 0 3 [] _ qe qz).mono ?_
  rintro e u' w'' ⟨rfl,rfl,rfl⟩
  simp [Leaves,settle,results,Tryz.results12,go_sem,qe]
  exact below_set HQB.out 0 _
 obtain ⟨⟨q0,q1,q2,q3,q4,q5,q6,q7,q8,q9,qb⟩,qe,qz⟩:=HS3.out
 clear qb
 go_wp2_with fail
 refine (HDep.out _ HS3.out.box.bel).mono ?_
 rintro e w4 ⟨hkk,hN⟩
 have hbb:=Kp.to_below hkk
 clear hkk
 have HS4:=hideM (HS3.out.on hbb)
 clear hbb q0 q1 q2 q3 q4 q5 q6 q7 q8 q9 qe qz HS3 HDep
 rcases hN with ⟨ss,rfl,rfl,_⟩|⟨rfl,rfl⟩
 rotate_left
 ·have HF:R=4:=by rw [HR.out];rfl
  obtain ⟨_,qe,qz⟩:=HS4.out
  have HQB:=hideM HS4.out.box.bel
  clear HR
  subst HF
  go_wp2_with fail
  refine leaves_cons (f:=23) (args:=#[.pointer (some ⟨w.heap.size+1,0,none⟩)]) (by simp) (by simp [go_sem]) ?_
  refine (checkCatch ⟨w.heap.size+1,0,none⟩ 0 4 [] _ qe qz).mono ?_
  rintro e u' w'' ⟨rfl,rfl,rfl⟩
  simp [Leaves,settle,results,Tryz.results12,go_sem,qe]
  exact below_set HQB.out 0 _
 obtain ⟨⟨q0,q1,q2,q3,q4,q5,q6,q7,q8,q9,qb⟩,qe,qz⟩:=HS4.out
 clear qb
 go_wp2_with fail
 refine (HSh.out (by first|trivial|rfl) _ HS4.out.box.bel).mono ?_
 rintro e w5 ⟨hN,hbb⟩
 have HS5:=hideM (HS4.out.on hbb)
 clear hbb q0 q1 q2 q3 q4 q5 q6 q7 q8 q9 qe qz HS4 HSh
 rcases hN with ⟨rfl,rfl⟩|⟨rfl,rfl⟩
 rotate_left
 ·have HF:R=30:=by rw [HR.out];rfl
  obtain ⟨_,qe,qz⟩:=HS5.out
  have HQB:=hideM HS5.out.box.bel
  clear HR
  subst HF
  go_wp2_with fail
  refine leaves_cons (f:=23) (args:=#[.pointer (some ⟨w.heap.size+1,0,none⟩)]) (by simp) (by simp [go_sem]) ?_
  refine (checkCatch ⟨w.heap.size+1,0,none⟩ 0 30 [] _ qe qz).mono ?_
  rintro e u' w'' ⟨rfl,rfl,rfl⟩
  simp [Leaves,settle,results,Tryz.results12,go_sem,qe]
  exact below_set HQB.out 0 _
 obtain ⟨⟨q0,q1,q2,q3,q4,q5,q6,q7,q8,q9,qb⟩,qe,qz⟩:=HS5.out
 clear qb
 go_wp2_with fail
 refine (HFor.out _ HS5.out.box.bel).mono ?_
 rintro e w6 ⟨hkk,hN⟩
 have hbb:=Kp.to_below hkk
 clear hkk
 have HS6:=hideM (HS5.out.on hbb)
 clear hbb q0 q1 q2 q3 q4 q5 q6 q7 q8 q9 qe qz HS5 HFor
 rcases hN with ⟨ss,rfl,rfl,_⟩|⟨rfl,rfl⟩
 rotate_left
 ·have HF:R=30:=by rw [HR.out];rfl
  obtain ⟨_,qe,qz⟩:=HS6.out
  have HQB:=hideM HS6.out.box.bel
  clear HR
  subst HF
  go_wp2_with fail
  refine leaves_cons (f:=23) (args:=#[.pointer (some ⟨w.heap.size+1,0,none⟩)]) (by simp) (by simp [go_sem]) ?_
  refine (checkCatch ⟨w.heap.size+1,0,none⟩ 0 30 [] _ qe qz).mono ?_
  rintro e u' w'' ⟨rfl,rfl,rfl⟩
  simp [Leaves,settle,results,Tryz.results12,go_sem,qe]
  exact below_set HQB.out 0 _
 have HF:R=0:=by rw [HR.out];rfl
 obtain ⟨_,qe,qz⟩:=HS6.out
 have HQB:=hideM HS6.out.box.bel
 clear HR
 subst HF
 go_wp2_with fail
 refine leaves_cons (f:=23) (args:=#[.pointer (some ⟨w.heap.size+1,0,none⟩)]) (by simp) (by simp [go_sem]) ?_
 refine (checkIdle ⟨w.heap.size+1,0,none⟩ _).mono ?_
 rintro e u' w'' ⟨rfl,rfl,rfl⟩
 simp [Leaves,settle,results,Tryz.results12,go_sem,qe]
 exact below_set HQB.out 0 _
end Go.Proofs.YtiailkiepndliaaGreatDoor

namespace Go.Proofs.YtiailkiepndliaaGreatDoor
open Go.RowKit Rep Enc Go.Lib
set_option linter.unusedVariables false
namespace Enc
def NR1 {α:Type} (rec:α->Prop) (x:Ins α):Prop:=(-9223372036854775808<=x.n/\x.n<=9223372036854775807)/\rec x.body/\rec x.els
def NR:(d:Nat)->IL d->Prop
 | 0,_=>True
 | d+1,l=>∀x,x ∈ (show List (Ins (IL d)) from l)->NR1 (NR d) x
theorem goL_all {α:Type} {step:Unit->Ins α->Option Unit} {sub:α->Unit->Option Unit}:∀(l:List (Ins α)),goL step sub l ()=some ()->∀x ∈ l,step () x=some ()/\sub x.body ()=some ()/\sub x.els ()=some ()
 | [],_,x,hx=>by cases hx
 | y :: r,h,x,hx=>by
  have h':((step () y).bind fun s1=>(sub y.body s1).bind fun s2=>(sub y.els s2).bind fun s3=>goL step sub r s3)=some ():=h
  obtain ⟨s1,e1,h1⟩:=Option.bind_eq_some_iff.1 h'
  obtain ⟨s2,e2,h2⟩:=Option.bind_eq_some_iff.1 h1
  obtain ⟨s3,e3,h3⟩:=Option.bind_eq_some_iff.1 h2
  rcases List.mem_cons.1 hx with rfl|hx
  ·exact ⟨e1,e2,e3⟩
  ·exact goL_all r h3 x hx
theorem idx_iff {n:Int} (h:idx n=true):0<=n/\n<=4294967295:=of_decide_eq_true h
theorem rg1_of {α:Type} {rec:α->Prop} {x:Ins α} {nb ne:Nat} (hok:okF (form x.op) x.op x.a x.b x.n x.labels nb ne=true) (hf:x.labels.length<=4096) (hn:-9223372036854775808<=x.n/\x.n<=9223372036854775807) (hb:rec x.body) (he:rec x.els):Rg1 rec x:=by
 unfold okF at hok
 refine ⟨fun h4 h8=>?_,fun h8=>?_,fun _=>hn,fun h5=>?_,by omega,hb,he⟩
 ·rw [if_neg (by omega),if_neg (by omega),if_neg (by omega)] at hok
  by_cases h:form x.op=4\/form x.op=6\/form x.op=7
  ·rw [if_pos h,Bool.and_eq_true] at hok;exact idx_iff hok.1
  ·rw [if_neg h] at hok
   by_cases h5:form x.op=5
   ·rw [if_pos h5,Bool.and_eq_true,Bool.and_eq_true] at hok;exact idx_iff hok.1.1
   ·rw [if_neg h5,if_pos (by omega),Bool.and_eq_true,Bool.and_eq_true] at hok;exact idx_iff hok.1.1
 ·rw [if_neg (by omega),if_neg (by omega),if_neg (by omega),if_neg (by omega),if_neg (by omega),if_pos h8,Bool.and_eq_true,Bool.and_eq_true] at hok
  exact idx_iff hok.1.2
 ·rw [if_neg (by omega),if_neg (by omega),if_neg (by omega),if_neg (by omega),if_pos h5,Bool.and_eq_true,Bool.and_eq_true] at hok
  intro y hy
  exact idx_iff (List.all_eq_true.1 hok.1.2 y hy)
theorem rg_of:∀(d:Nat) (l:IL d) (k:Nat),goI stepForm d l k ()=some ()->goI stepLabels d l k ()=some ()->NR d l->Rg d l
 | 0,_,_,_,_,_=>trivial
 | d+1,l,k,hF,hL,hN=>by
  intro x hx
  obtain ⟨f1,f2,f3⟩:=goL_all (show List (Ins (IL d)) from l) hF x hx
  obtain ⟨g1,g2,g3⟩:=goL_all (show List (Ins (IL d)) from l) hL x hx
  obtain ⟨n1,n2,n3⟩:=hN x hx
  have hok:okS (sn x)=true:=by
   unfold stepForm at f1
   by_cases h:okS (sn x)=true
   ·exact h
   ·rw [if_neg h] at f1;cases f1
  have hfw:x.labels.length<=4096:=by
   unfold stepLabels at g1
   by_cases h:few (sn x).labels.length=true
   ·have:=of_decide_eq_true (p:=(((sn x).labels.length:Int)<=4096)) h
    have e:(sn x).labels=x.labels:=rfl
    rw [e] at this;omega
   ·rw [if_neg h] at g1;cases g1
  exact rg1_of hok hfw n1 (rg_of d x.body (k+1) f2 g2 n2) (rg_of d x.els (k+1) f3 g3 n3)
def totL {α:Type} (f:α->Nat):List (Ins α)->Nat
 | []=>0
 | x :: r=>1+f x.body+f x.els+totL f r
def tot:(d:Nat)->IL d->Nat
 | 0,_=>0
 | d+1,l=>totL (tot d) l
theorem goL_tot {α:Type} {f:α->Nat} {step:Nat->Ins α->Option Nat} {sub:α->Nat->Option Nat} (hstep:∀c x c',step c x=some c'->c'=c+1) (hsub:∀y c c',sub y c=some c'->c'=c+f y):∀(l:List (Ins α)) (c c':Nat),goL step sub l c=some c'->c'=c+totL f l
 | [],c,c',h=>by injection h with h;rw [<- h];rfl
 | y :: r,c,c',h=>by
  have h':((step c y).bind fun s1=>(sub y.body s1).bind fun s2=>(sub y.els s2).bind fun s3=>goL step sub r s3)=some c':=h
  obtain ⟨s1,e1,h1⟩:=Option.bind_eq_some_iff.1 h'
  obtain ⟨s2,e2,h2⟩:=Option.bind_eq_some_iff.1 h1
  obtain ⟨s3,e3,h3⟩:=Option.bind_eq_some_iff.1 h2
  have a1:=hstep _ _ _ e1
  have a2:=hsub _ _ _ e2
  have a3:=hsub _ _ _ e3
  have a4:=goL_tot hstep hsub r s3 c' h3
  show c'=c+(1+f y.body+f y.els+totL f r)
  omega
theorem goI_tot:∀(d:Nat) (l:IL d) (k c c':Nat),goI stepCount d l k c=some c'->c'=c+tot d l
 | 0,_,_,c,c',h=>by injection h with h;rw [<- h];rfl
 | d+1,l,k,c,c',h=>goL_tot (f:=tot d) (fun c x c' h=>by
   unfold stepCount at h
   split at h
   ·injection h with h;exact h.symm
   ·cases h) (fun y c c' h=>goI_tot d y (k+1) c c' h) (show List (Ins (IL d)) from l) c c' h
theorem goI_count_le:∀(d:Nat) (l:IL d) (k c c':Nat),c<=65536->goI stepCount d l k c=some c'->c'<=65536
 | 0,_,_,c,c',hc,h=>by injection h with h;omega
 | d+1,l,k,c,c',hc,h=>by
  have key:∀(l:List (Ins (IL d))) (c c':Nat),c<=65536->goL (fun s x=>stepCount s (sn x) k) (fun y s=>goI stepCount d y (k+1) s) l c=some c'->c'<=65536:=by
   intro l
   induction l with
   | nil=>intro c c' hc h;injection h with h;omega
   | cons y r ih =>
    intro c c' hc h
    have h':((stepCount c (sn y) k).bind fun s1=>(goI stepCount d y.body (k+1) s1).bind fun s2=>(goI stepCount d y.els (k+1) s2).bind fun s3=>goL (fun s x=>stepCount s (sn x) k) (fun y s=>goI stepCount d y (k+1) s) r s3)=some c':=h
    obtain ⟨s1,e1,h1⟩:=Option.bind_eq_some_iff.1 h'
    obtain ⟨s2,e2,h2⟩:=Option.bind_eq_some_iff.1 h1
    obtain ⟨s3,e3,h3⟩:=Option.bind_eq_some_iff.1 h2
    have b1:s1<=65536:=by
     unfold stepCount at e1
     split at e1
     ·injection e1 with e1;omega
     ·cases e1
    exact ih s3 c' (goI_count_le d _ _ _ _ (goI_count_le d _ _ _ _ b1 e2) e3) h3
  exact key (show List (Ins (IL d)) from l) c c' hc h
theorem insB_len {α:Type} {rec:α->List Int} {sz:α->Nat} {P:α->Prop} {x:Ins α} (r:Rg1 P x):(insB rec sz x).length<=100000100+(rec x.body).length+(rec x.els).length:=by
 unfold insB
 have ha:4<=form x.op->form x.op<=8->(Leb.uB x.a).length<=10:=fun h1 h2=>Leb.uB_ten (r.a h1 h2).1 (by have:=(r.a h1 h2).2;omega)
 have hb:form x.op=8->(Leb.uB x.b).length<=10:=fun h=>Leb.uB_ten (r.b h).1 (by have:=(r.b h).2;omega)
 have hn:form x.op=9->(Leb.sB x.n).length<=10:=fun h=>Leb.sB_ten (r.n h).1 (r.n h).2
 have hi:form x.op=5->(idxB x.labels).length<=100000010:=fun h=>by
  have h1:=Leb.uB_ten (n:=(x.labels.length:Int)) (by omega) (by have:=r.few;omega)
  have h2:=flat_le (f:=Leb.uB) 10 x.labels fun y hy=>Leb.uB_ten (r.labels h y hy).1 (by have:=(r.labels h y hy).2;omega)
  have h3:=r.few
  unfold idxB
  rw [List.length_append];omega
 rw [List.length_append]
 simp only [List.length_cons,List.length_nil]
 split
 ·split<;>simp<;>omega
 ·split
  ·simp only [List.length_append,List.length_cons,List.length_nil]
   have e1:(if x.a=0 then [64] else [x.a%256]:List Int).length=1:=by split<;>rfl
   have e2:(if 0<sz x.els then 5 :: ([]++rec x.els) else []:List Int).length<=1+(rec x.els).length:=by split<;>simp<;>omega
   have e3:(if 0<sz x.els then [5]++rec x.els else []:List Int).length<=1+(rec x.els).length:=by split<;>simp<;>omega
   omega
  ·split
   ·have:=ha (by omega) (by omega);omega
   ·split
    ·rw [List.length_append];have:=ha (by omega) (by omega);have:=hi (by omega);omega
    ·split
     ·rw [List.length_append];have:=ha (by omega) (by omega);simp only [List.length_cons,List.length_nil];omega
     ·split
      ·rw [List.length_append];have:=ha (by omega) (by omega);have:=hb (by omega);omega
      ·split
       ·have:=hn (by omega);omega
       ·simp;omega
theorem bytesI_len:∀(d:Nat) (l:IL d),Rg d l->(bytesI d l).length<=tot d l*100000100
 | 0,_,_=>by show 0<=_;omega
 | d+1,l,hR=>by
  have key:∀(l:List (Ins (IL d))),(∀x ∈ l,Rg1 (Rg d) x)->(insL (bytesI d) (size d) l).length<=totL (tot d) l*100000100:=by
   intro l
   induction l with
   | nil=>intro _;show 0<=_;omega
   | cons y r ih =>
    intro h
    have h1:=ih fun x hx=>h x (List.mem_cons_of_mem _ hx)
    have r:=h y (List.mem_cons_self ..)
    have h2:=insB_len (rec:=bytesI d) (sz:=size d) r
    have h3:=bytesI_len d y.body r.body
    have h4:=bytesI_len d y.els r.els
    show (insB (bytesI d) (size d) y++insL (bytesI d) (size d) _).length<=(1+tot d y.body+tot d y.els+totL (tot d) _)*100000100
    rw [List.length_append]
    omega
  exact key (show List (Ins (IL d)) from l) hR
theorem chk_zero {d:Nat} {m:Mod d} (h:chk m=0):fewM m=true/\(∃c,goF stepCount d m.funcs 0=some c)/\goF stepLabels d m.funcs ()=some ()/\shM m=true/\goF stepForm d m.funcs ()=some ():=by
 unfold chk at h
 split at h
 ·rename_i h0
  split at h
  ·cases h
  ·rename_i c hc
   split at h
   ·cases h
   ·rename_i u1 h1
    split at h
    ·cases h
    ·split at h
     ·rename_i h3
      split at h
      ·cases h
      ·rename_i u2 h4
       exact ⟨h0,⟨c,hc⟩,h1,h3,h4⟩
     ·cases h
 ·cases h
theorem goF_one {σ:Type} {step:σ->Sn->Nat->Option σ} {d:Nat} {f:Fun d} {s s':σ} (h:goF step d [f] s=some s'):goI step d f.body 0 s=some s':=by
 have h':((goI step d f.body 0 s).bind fun s1=>some s1)=some s':=h
 obtain ⟨s1,e1,h1⟩:=Option.bind_eq_some_iff.1 h'
 rw [e1];exact h1
end Enc
end Go.Proofs.YtiailkiepndliaaGreatDoor

namespace Go.Proofs.YtiailkiepndliaaGreatDoor
open Go.RowKit Rep Enc Go.Lib
set_option linter.unusedVariables false
namespace Enc
theorem typ_iff {n:Int} (h:typ n=true):n=126\/n=127:=of_decide_eq_true h
def VI:(d:Nat)->IL d->Prop
 | 0,_=>True
 | d+1,l=>∀x,x ∈ (show List (Ins (IL d)) from l)->okS (sn x)=true/\VI d x.body/\VI d x.els
theorem vi_of:∀(d:Nat) (l:IL d) (k:Nat),goI stepForm d l k ()=some ()->VI d l
 | 0,_,_,_=>trivial
 | d+1,l,k,hF=>by
  intro x hx
  obtain ⟨f1,f2,f3⟩:=goL_all (show List (Ins (IL d)) from l) hF x hx
  refine ⟨?_,vi_of d x.body (k+1) f2,vi_of d x.els (k+1) f3⟩
  unfold stepForm at f1
  by_cases h:okS (sn x)=true
  ·exact h
  ·rw [if_neg h] at f1;cases f1
theorem none_eq:∀(d:Nat) (l k:IL d),size d l=0->size d k=0->l=k
 | 0,_,_,_,_=>rfl
 | d+1,l,k,h1,h2=>by
  have e1:(show List (Ins (IL d)) from l) = []:=List.length_eq_zero_iff.1 h1
  have e2:(show List (Ins (IL d)) from k) = []:=List.length_eq_zero_iff.1 h2
  exact e1.trans e2.symm
set_option maxHeartbeats 1000000 in
theorem form_byte (op:Int) (h1:1<=form op) (h2:form op<=9):0<=op/\op<=255/\op≠5/\op≠11:=by
 by_cases h:0<=op/\op<=255/\op≠5/\op≠11
 ·exact h
 ·exfalso
  have:op<0\/191<op\/op=5\/op=11:=by omega
  rcases this with h|h|rfl|rfl
  ·unfold form at h1;rw [if_pos (by omega)] at h1;omega
  ·unfold form at h1
   repeat rw [if_neg (by omega)] at h1
   omega
  ·revert h1;decide
  ·revert h1;decide
structure Ok1 {d:Nat} (x:Ins (IL d)):Prop where
 fm:1<=form x.op/\form x.op<=9
 a:form x.op=1\/form x.op=9->x.a=0
 a2:form x.op=2\/form x.op=3->x.a=0\/x.a=126\/x.a=127
 a4:4<=form x.op->form x.op<=8->0<=x.a
 b:form x.op≠8->x.b=0
 b8:form x.op=8->0<=x.b
 n:form x.op≠9->x.n=0
 labels:form x.op≠5->x.labels = []
 l5:form x.op=5->∀y ∈ x.labels,0<=y
 body:form x.op≠2->form x.op≠3->size d x.body=0
 els:form x.op≠3->size d x.els=0
theorem bare_at {a b n:Int} {nl nb ne:Nat} (h:bare a b n nl nb ne=true):a=0/\b=0/\n=0/\nl=0/\nb=0/\ne=0:=of_decide_eq_true h
theorem res_iff {a:Int} (h:res a=true):a=0\/a=126\/a=127:=by
 unfold res at h
 rcases Bool.or_eq_true_iff.1 h with h|h
 ·exact .inl (of_decide_eq_true h)
 ·exact .inr (typ_iff h)
theorem ok1_of {d:Nat} {x:Ins (IL d)} (h:okS (sn x)=true):Ok1 x:=by
 have h':okF (form x.op) x.op x.a x.b x.n x.labels (size d x.body) (size d x.els)=true:=h
 unfold okF at h'
 have l0:∀ {l:List Int},l.length=0->l = []:=fun h=>List.length_eq_zero_iff.1 h
 by_cases f1:form x.op=1
 ·rw [if_pos f1] at h'
  obtain ⟨h1,h2,h3,h4,h5,h6⟩:=bare_at h'
  exact ⟨by omega,fun _=>h1,fun h=>by omega,fun h=>by omega,fun _=>h2,fun h=>by omega,fun _=>h3,fun _=>l0 h4,fun h=>by omega,fun _ _=>h5,fun _=>h6⟩
 rw [if_neg f1] at h'
 by_cases f2:form x.op=2
 ·rw [if_pos f2,Bool.and_eq_true] at h'
  obtain ⟨h1,h2,h3,h4,h5,h6⟩:=bare_at h'.2
  exact ⟨by omega,fun h=>by omega,fun _=>res_iff h'.1,fun h=>by omega,fun _=>h2,fun h=>by omega,fun _=>h3,fun _=>l0 h4,fun h=>by omega,fun h=>absurd f2 h,fun _=>h6⟩
 rw [if_neg f2] at h'
 by_cases f3:form x.op=3
 ·rw [if_pos f3,Bool.and_eq_true] at h'
  obtain ⟨h1,h2,h3,h4,h5,h6⟩:=bare_at h'.2
  exact ⟨by omega,fun h=>by omega,fun _=>res_iff h'.1,fun h=>by omega,fun _=>h2,fun h=>by omega,fun _=>h3,fun _=>l0 h4,fun h=>by omega,fun _ h=>absurd f3 h,fun h=>absurd f3 h⟩
 rw [if_neg f3] at h'
 by_cases f4:form x.op=4\/form x.op=6\/form x.op=7
 ·rw [if_pos f4,Bool.and_eq_true] at h'
  obtain ⟨h1,h2,h3,h4,h5,h6⟩:=bare_at h'.2
  exact ⟨by omega,fun h=>by omega,fun h=>by omega,fun _ _=>(idx_iff h'.1).1,fun _=>h2,fun h=>by omega,fun _=>h3,fun _=>l0 h4,fun h=>by omega,fun _ _=>h5,fun _=>h6⟩
 rw [if_neg f4] at h'
 by_cases f5:form x.op=5
 ·rw [if_pos f5,Bool.and_eq_true,Bool.and_eq_true] at h'
  obtain ⟨h1,h2,h3,h4,h5,h6⟩:=bare_at h'.2
  exact ⟨by omega,fun h=>by omega,fun h=>by omega,fun _ _=>(idx_iff h'.1.1).1,fun _=>h2,fun h=>by omega,fun _=>h3,fun h=>absurd f5 h,fun _ y hy=>(idx_iff (List.all_eq_true.1 h'.1.2 y hy)).1,fun _ _=>h5,fun _=>h6⟩
 rw [if_neg f5] at h'
 by_cases f8:form x.op=8
 ·rw [if_pos f8,Bool.and_eq_true,Bool.and_eq_true] at h'
  obtain ⟨h1,h2,h3,h4,h5,h6⟩:=bare_at h'.2
  exact ⟨by omega,fun h=>by omega,fun h=>by omega,fun _ _=>(idx_iff h'.1.1).1,fun h=>absurd f8 h,fun _=>(idx_iff h'.1.2).1,fun _=>h3,fun _=>l0 h4,fun h=>by omega,fun _ _=>h5,fun _=>h6⟩
 rw [if_neg f8] at h'
 by_cases f9:form x.op=9
 ·rw [if_pos f9,Bool.and_eq_true] at h'
  obtain ⟨h1,h2,h3,h4,h5,h6⟩:=bare_at h'.2
  exact ⟨by omega,fun _=>h1,fun h=>by omega,fun h=>by omega,fun _=>h2,fun h=>by omega,fun h=>absurd f9 h,fun _=>l0 h4,fun h=>by omega,fun _ _=>h5,fun _=>h6⟩
 ·rw [if_neg f9] at h';cases h'
def tlB {α:Type} (rec:α->List Int) (sz:α->Nat) (x:Ins α):List Int :=
 (if form x.op=1 then (if x.op=63\/x.op=64 then [0] else [])
  else if form x.op=2\/form x.op=3 then (if x.a=0 then [64] else [x.a%256])++rec x.body++(if 0<sz x.els then [5]++rec x.els else [])++[11]
  else if form x.op=4\/form x.op=6 then Leb.uB x.a
  else if form x.op=5 then idxB x.labels++Leb.uB x.a
  else if form x.op=7 then Leb.uB x.a++[0]
  else if form x.op=8 then Leb.uB x.a++Leb.uB x.b
  else if form x.op=9 then Leb.sB x.n else [])
theorem insB_tl {α:Type} (rec:α->List Int) (sz:α->Nat) (x:Ins α):insB rec sz x=(x.op%256) :: tlB rec sz x:=rfl
end Enc
end Go.Proofs.YtiailkiepndliaaGreatDoor

