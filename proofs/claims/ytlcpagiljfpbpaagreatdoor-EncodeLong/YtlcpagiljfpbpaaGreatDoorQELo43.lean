/- Texts that the claim needs. -/
import Derived.Test.YtlcpagiljfpbpaaGreatDoorQELo40
import Derived.Test.YtlcpagiljfpbpaaGreatDoorQELo41
import Derived.Test.YtlcpagiljfpbpaaGreatDoorQELo42
import Derived.Test.YtlcpagiljfpbpaaGreatDoorQELo20
namespace Go.Proofs.YtlcpagiljfpbpaaGreatDoor
open Go.RowKit Rep Enc Go.Lib
set_option linter.unusedVariables false
namespace Enc
theorem lims_tab (l:List Lim):lisB (limsB (nums ⟨#[112]⟩)) l=lisB (fun x=>[112]++limB x) l:=rfl
theorem lims_mem (l:List Lim):lisB (limsB (nums ⟨#[]⟩)) l=lisB limB l:=by
 have:limsB (nums ⟨#[]⟩)=limB:=by funext x;unfold limsB;show []++limB x=limB x;rw [List.nil_append]
 rw [this]
def GSec (p bM q:Nat) (lst:Value) (n:Nat) (agg:Value) (wS:World) (iq:List Int):Nat->Value->World->Prop
 | 0,v,_=>v=.pointer (some ⟨p,0,none⟩)
 | 1,v,_=>v=.pointer (some ⟨bM,q,none⟩)
 | 2,v,_=>v=lst
 | 3,v,_=>v=.int .i64 (n:Nat)
 | 4,v,_=>v=agg
 | 5,v,w=>∃r oq u bq,v=.pointer (some ⟨r,0,none⟩)/\PS wS r oq u bq w/\St iq oq bq
 | _,_,_=>True
def GLim (p bM q:Nat) (lst:Value) (n:Nat) (wS:World) (iq:List Int):Nat->Value->World->Prop
 | 0,v,_=>v=.pointer (some ⟨p,0,none⟩)
 | 1,v,_=>v=.pointer (some ⟨bM,q,none⟩)
 | 2,v,_=>v=lst
 | 3,v,_=>v=.int .i64 (n:Nat)
 | 4,v,_=>v=.pointer (some ⟨bM,q,none⟩)
 | 5,v,_=>v=lst
 | 6,v,w=>∃r oq u bq,v=.pointer (some ⟨r,0,none⟩)/\PS wS r oq u bq w/\St iq oq bq
 | _,_,_=>True
theorem GSec_on {p bM q:Nat} {lst:Value} {n:Nat} {agg:Value} {wS:World} {iq:List Int} (i:Nat) (v:Value) (w w':World) (hi:i<6) (h:GSec p bM q lst n agg wS iq i v w) (hb:Below w.heap.size w w'):GSec p bM q lst n agg wS iq i v w':=by
 have hc:i=0\/i=1\/i=2\/i=3\/i=4\/i=5:=by omega
 rcases hc with rfl|rfl|rfl|rfl|rfl|rfl
 ·exact h
 ·exact h
 ·exact h
 ·exact h
 ·exact h
 ·obtain ⟨r,oq,u,bq,h1,h2,h3⟩:=h;exact ⟨r,oq,u,bq,h1,h2.on hb,h3⟩
theorem GLim_on {p bM q:Nat} {lst:Value} {n:Nat} {wS:World} {iq:List Int} (i:Nat) (v:Value) (w w':World) (hi:i<7) (h:GLim p bM q lst n wS iq i v w) (hb:Below w.heap.size w w'):GLim p bM q lst n wS iq i v w':=by
 have hc:i=0\/i=1\/i=2\/i=3\/i=4\/i=5\/i=6:=by omega
 rcases hc with rfl|rfl|rfl|rfl|rfl|rfl|rfl
 ·exact h
 ·exact h
 ·exact h
 ·exact h
 ·exact h
 ·exact h
 ·obtain ⟨r,oq,u,bq,h1,h2,h3⟩:=h;exact ⟨r,oq,u,bq,h1,h2.on hb,h3⟩
theorem len6 {α:Type} {l:List α} (h:l.length=6):∃x0 x1 x2 x3 x4 x5,l = [x0,x1,x2,x3,x4,x5]:=by
 match l,h with
 | [x0,x1,x2,x3,x4,x5],_=>exact ⟨x0,x1,x2,x3,x4,x5,rfl⟩
theorem len7 {α:Type} {l:List α} (h:l.length=7):∃x0 x1 x2 x3 x4 x5 x6,l = [x0,x1,x2,x3,x4,x5,x6]:=by
 match l,h with
 | [x0,x1,x2,x3,x4,x5,x6],_=>exact ⟨x0,x1,x2,x3,x4,x5,x6,rfl⟩
structure DSt (w0:World) (p bM:Nat) (cs:Array Value) (wa:World) (va:Value) (id:List Int) (ov:Bool) (v:Value) (b:List Int) (w:World):Prop where
 ps:PS w0 p ov v b w
 st:St id ov b
 bx:Bx w bM 32 cs
 ne:bM≠p/\some bM≠v.ownBlock
 kept:Kept p va wa v w
theorem DSt.next {w0:World} {p bM:Nat} {cs:Array Value} {wa:World} {va:Value} {id:List Int} {ov:Bool} {v:Value} {b:List Int} {w:World} (h:DSt w0 p bM cs wa va id ov v b w) {w1:World} (hb:Below w.heap.size w w1) {id':List Int} {ov':Bool} {v':Value} {b':List Int} {w':World} (hp:PS w0 p ov' v' b' w') (hs:St id' ov' b') (hk:Kept p v w1 v' w'):DSt w0 p bM cs wa va id' ov' v' b' w':=by
 have hk2:=(Kept.below (p:=p) (v:=v) hb).trans hk
 obtain ⟨b1,b2⟩:=hk2.bx h.bx h.ne.1 h.ne.2
 exact ⟨hp,hs,b1,⟨h.ne.1,b2⟩,h.kept.trans hk2⟩
end Enc
set_option maxRecDepth 100000 in
set_option maxHeartbeats 16000000 in
theorem dSections (w0:World) (p:Nat) (ov:Bool) (v:Value) (bs id:List Int) (d:Nat) (v0 v1 v2 v3 v4 v5 v6 v7 v8 v9:Value) (m:Mod d) (w:World) (h:PS w0 p ov v bs w) (hS:St id ov bs) (hM:ModAt w0 d v0 v1 v2 v3 v4 v5 v6 v7 v8 v9 m) (W:Wr m) :
  Calls Tryz.prog 23 #[.pointer (some ⟨p,0,none⟩),.agg #[v0,v1,v2,v3,v4,v5,v6,v7,v8,v9]] w (PDo w0 p v w (id++fstB (sb m) 11)):=by
 obtain ⟨o0,k0,rfl⟩:=Row.len hM.types
 obtain ⟨o1,k1,rfl⟩:=Row.len hM.imports
 obtain ⟨o2,k2,rfl⟩:=Row.len hM.funcs
 obtain ⟨o3,k3,rfl⟩:=Row.len hM.tables
 obtain ⟨o4,k4,rfl⟩:=Row.len hM.mems
 obtain ⟨o5,k5,rfl⟩:=Row.len hM.globals
 obtain ⟨o6,k6,rfl⟩:=Row.len hM.exports
 obtain ⟨o7,k7,rfl⟩:=Row.len hM.start
 obtain ⟨o8,k8,rfl⟩:=Row.len hM.elems
 obtain ⟨o9,k9,rfl⟩:=Row.len hM.datas
 have hb:=new_on' w (.cells #[.slice o0 m.types.length k0,.slice o1 m.imports.length k1,.slice o2 m.funcs.length k2,.slice o3 m.tables.length k3,.slice o4 m.mems.length k4,.slice o5 m.globals.length k5,.slice o6 m.exports.length k6,.slice o7 m.start.length k7,.slice o8 m.elems.length k8,.slice o9 m.datas.length k9] 32)
 obtain ⟨u1,hu1⟩:∃u1,u1=w.alloc (.cells #[.slice o0 m.types.length k0,.slice o1 m.imports.length k1,.slice o2 m.funcs.length k2,.slice o3 m.tables.length k3,.slice o4 m.mems.length k4,.slice o5 m.globals.length k5,.slice o6 m.exports.length k6,.slice o7 m.start.length k7,.slice o8 m.elems.length k8,.slice o9 m.datas.length k9] 32):=⟨_,rfl⟩
 rw [<- hu1] at hb
 have HD0:Hid (DSt w0 p w.heap.size #[.slice o0 m.types.length k0,.slice o1 m.imports.length k1,.slice o2 m.funcs.length k2,.slice o3 m.tables.length k3,.slice o4 m.mems.length k4,.slice o5 m.globals.length k5,.slice o6 m.exports.length k6,.slice o7 m.start.length k7,.slice o8 m.elems.length k8,.slice o9 m.datas.length k9] w v (id++fstB (sb m) 0) ov v bs u1):=hideR ⟨h.on hb,by show St (id++[]) ov bs;rw [List.append_nil];exact hS,by rw [hu1];exact Bx.new rfl,⟨by have:=h.lt;omega,fun e=>by have:=(h.own.lt _ e.symm).2;omega⟩,Kept.below hb⟩
 have HU:=hideR hu1
 have HM:=hideR hM
 have HW:=hideR W
 have hst1:=W.once
 have HS8:Hid (m.start = []\/∃s,m.start = [s]):=hideR (by
  have:=W.once
  match hm:m.start with
  | []=>exact .inl rfl
  | [s]=>exact .inr ⟨s,rfl⟩
  | a :: b :: r=>rw [hm] at this;simp at this)
 have l0:=hM.types.1
 have l1:=hM.imports.1
 have l2:=hM.funcs.1
 have l3:=hM.tables.1
 have l4:=hM.mems.1
 have l5:=hM.globals.1
 have l6:=hM.exports.1
 have l8:=hM.elems.1
 have l9:=hM.datas.1
 have HLL:=hideR (⟨l0,l1,l2,l3,l4,l5,l6,l8,l9⟩:_/\_/\_/\_/\_/\_/\_/\_/\_)
 clear h hS hM W hb hu1 hst1 l0 l1 l2 l3 l4 l5 l6 l8 l9
 have HB1:Hid (fstB (sb m) 1=fstB (sb m) 0++secB 1 m.types.length (lisB ftB m.types)):=hideR rfl
 have HB2:Hid (fstB (sb m) 2=fstB (sb m) 1++secB 2 m.imports.length (lisB impB m.imports)):=hideR rfl
 have HB3:Hid (fstB (sb m) 3=fstB (sb m) 2++secB 3 m.funcs.length (lisB (fun x=>Leb.uB x.type) m.funcs)):=hideR rfl
 have HB4:Hid (fstB (sb m) 4=fstB (sb m) 3++secB 4 m.tables.length (lisB (fun x=>[112]++limB x) m.tables)):=hideR rfl
 have HB5:Hid (fstB (sb m) 5=fstB (sb m) 4++secB 5 m.mems.length (lisB limB m.mems)):=hideR rfl
 have HB6:Hid (fstB (sb m) 6=fstB (sb m) 5++secB 6 m.globals.length (lisB gloB m.globals)):=hideR rfl
 have HB7:Hid (fstB (sb m) 7=fstB (sb m) 6++secB 7 m.exports.length (lisB expB m.exports)):=hideR rfl
 have HB9:Hid (fstB (sb m) 9=fstB (sb m) 8++secB 9 m.elems.length (lisB elmB m.elems)):=hideR rfl
 have HB10:Hid (fstB (sb m) 10=fstB (sb m) 9++secB 10 m.funcs.length (lisB (fun x=>sizB (codB x)) m.funcs)):=hideR rfl
 have HB11:Hid (fstB (sb m) 11=fstB (sb m) 10++secB 11 m.datas.length (lisB datB m.datas)):=hideR rfl
 have HB8:Hid (fstB (sb m) 8=fstB (sb m) 7++secB 8 m.start.length (m.start.flatMap Leb.uB)):=hideR rfl
 generalize hn0:m.types.length=n0 at *
 generalize hn1:m.imports.length=n1 at *
 generalize hn2:m.funcs.length=n2 at *
 generalize hn3:m.tables.length=n3 at *
 generalize hn4:m.mems.length=n4 at *
 generalize hn5:m.globals.length=n5 at *
 generalize hn6:m.exports.length=n6 at *
 generalize hn7:m.start.length=n7 at *
 generalize hn8:m.elems.length=n8 at *
 generalize hn9:m.datas.length=n9 at *
 have HN7:=hideR hn7
 clear hn0 hn1 hn2 hn3 hn4 hn5 hn6 hn7 hn8 hn9
 go_enter Tryz.func23,Tryz.ntmps23
 go_upto_region 1 with fail
 rw [<- HU.out]
 clear HU
 generalize w.heap.size=bM at *
 have HC:Hid (∀wz,Below u1.heap.size u1 wz->Calls Tryz.prog 63 #[.agg #[.slice o0 n0 k0,.slice o1 n1 k1,.slice o2 n2 k2,.slice o3 n3 k3,.slice o4 n4 k4,.slice o5 n5 k5,.slice o6 n6 k6,.slice o7 n7 k7,.slice o8 n8 k8,.slice o9 n9 k9]] wz (PMade wz (lisB ftB m.types))):=hideR fun wz hb=>dTyp d _ _ _ _ _ _ _ _ _ _ m wz (HM.out.on (HD0.out.ps.on hb).below) (fun _ _=>trivial)
 refine Reg.wp_region_two 6 (fun i=>4+i) (GSec p bM 0 (.slice o0 n0 k0) n0 (.agg #[.slice o0 n0 k0,.slice o1 n1 k1,.slice o2 n2 k2,.slice o3 n3 k3,.slice o4 n4 k4,.slice o5 n5 k5,.slice o6 n6 k6,.slice o7 n7 k7,.slice o8 n8 k8,.slice o9 n9 k9]) u1 (lisB ftB m.types)) (by kernel_rfl) (by kernel_rfl) (fun i j h1 h2 h=>by have h':4+i=4+j:=h;omega) (Reg.dst_ok (size:=87) (by kernel_rfl)) (fun i v w w' hi h hb=>GSec_on i v w w' hi h hb) ?hstep ?htail
 case hstep =>
  intro i o a wz hi ho hF hB hd
  have f0:a.tmps[0]?.getD undef=.pointer (some ⟨p,0,none⟩):=Reg.ev_get (hF.eval 0 (fun i hi=>by show 4+i≠0;omega))
  have f3:a.tmps[3]?.getD undef=.pointer (some ⟨bM,0,none⟩):=Reg.ev_get (hF.eval 3 (fun i hi=>by show 4+i≠3;omega))
  have hbx:Bx wz bM 32 #[.slice o0 n0 k0,.slice o1 n1 k1,.slice o2 n2 k2,.slice o3 n3 k3,.slice o4 n4 k4,.slice o5 n5 k5,.slice o6 n6 k6,.slice o7 n7 k7,.slice o8 n8 k8,.slice o9 n9 k9]:=by unfold Bx;rw [hB.block _ HD0.out.bx.lt];exact HD0.out.bx
  have q0:=hbx.cell 0 _ rfl
  have q1:=hbx.cell 1 _ rfl
  have q2:=hbx.cell 2 _ rfl
  have q3:=hbx.cell 3 _ rfl
  have q4:=hbx.cell 4 _ rfl
  have q5:=hbx.cell 5 _ rfl
  have q6:=hbx.cell 6 _ rfl
  have q7:=hbx.cell 7 _ rfl
  have q8:=hbx.cell 8 _ rfl
  have q9:=hbx.cell 9 _ rfl
  have hcase:i=0\/i=1\/i=2\/i=3\/i=4\/i=5:=by omega
  clear hi hbx
  rcases hcase with rfl|rfl|rfl|rfl|rfl|rfl
  all_goals (simp only [List.getElem?_toArray,List.getElem?_cons_succ,List.getElem?_cons_zero,Option.some.injEq] at ho;subst ho)
  ·refine Reg.step_k fun K hK=>?_
   go_simp
   exact hK _ _ ⟨_,rfl,Below.refl _ _,rfl⟩
  ·refine Reg.step_k fun K hK=>?_
   go_simp
   exact hK _ _ ⟨_,rfl,Below.refl _ _,rfl⟩
  ·have x0:a.tmps[5]?.getD undef=.pointer (some ⟨bM,0,none⟩):=Reg.ev_get (hd 1 (by decide))
   refine Reg.step_k fun K hK=>?_
   go_simp
   exact hK _ _ ⟨_,rfl,Below.refl _ _,rfl⟩
  ·have x0:a.tmps[6]?.getD undef=.slice o0 n0 k0:=Reg.ev_get (hd 2 (by decide))
   refine Reg.step_k fun K hK=>?_
   go_simp
   exact hK _ _ ⟨_,rfl,Below.refl _ _,rfl⟩
  ·refine Reg.step_k fun K hK=>?_
   go_simp
   exact hK _ _ ⟨_,rfl,Below.refl _ _,rfl⟩
  ·have x0:a.tmps[8]?.getD undef=.agg #[.slice o0 n0 k0,.slice o1 n1 k1,.slice o2 n2 k2,.slice o3 n3 k3,.slice o4 n4 k4,.slice o5 n5 k5,.slice o6 n6 k6,.slice o7 n7 k7,.slice o8 n8 k8,.slice o9 n9 k9]:=Reg.ev_get (hd 4 (by decide))
   refine Reg.step_k fun K hK=>?_
   have HKK:=hideR hK
   have HCW:=hideR (HC.out wz hB)
   have HBB:=hideR hB
   clear hK hd hF hB q0 q1 q2 q3 q4 q5 q6 q7 q8 q9
   go_simp
   refine HCW.out.mono ?_
   rintro e wy ⟨r,oq,u,bq,rfl,hr,hs⟩
   exact HKK.out _ _ ⟨_,rfl,hr.below,⟨r,oq,u,bq,rfl,hr.mono HBB.out,hs⟩⟩
 case htail =>
  intro a wz hF hB hG
  have g0:a.eval (.tmp 4)=.pointer (some ⟨p,0,none⟩):=hG 0 (by omega)
  have g3:a.eval (.tmp 7)=.int .i64 (n0:Nat):=hG 3 (by omega)
  obtain ⟨rq,oq,uq,bq,g5,hq,sq⟩:=(show ∃r oq u bq,a.eval (.tmp 9)=.pointer (some ⟨r,0,none⟩)/\PS u1 r oq u bq wz/\St (lisB ftB m.types) oq bq from hG 5 (by omega))
  obtain ⟨xl,hxl,rfl,hev⟩:=hF.lit (by simp)
  obtain ⟨x0,x1,x2,x3,x4,x5,rfl⟩:=len6 hxl
  have e0:=hev 0 (by omega)
  have e3:=hev 3 (by omega)
  have e5:=hev 5 (by omega)
  simp only [List.getD_cons_succ,List.getD_cons_zero] at e0 e3 e5
  rw [show (4+0)=4 from rfl,g0] at e0
  rw [show (4+3)=7 from rfl,g3] at e3
  rw [show (4+5)=9 from rfl,g5] at e5
  subst e0 e3 e5
  clear hev hxl hF hG g0 g3 g5
  simp only [List.take_succ_cons,List.take_zero,List.drop_succ_cons,List.drop_zero,List.cons_append,List.nil_append]
  have HC2:=hideR (dSection w0 u1 p rq ov oq v uq bs _ bq ((lisB ftB m.types)) 1 n0 wz (HD0.out.ps.on hq.below) HD0.out.st hq sq HD0.out.ps.lt hq.below (fun b hb=>(HD0.out.ps.own.lt b hb).2) (by omega) (HLL.out.1))
  have HBW:=hideR hq.below
  clear hq sq HC hB
  go_wp2_with fail
  refine HC2.out.mono ?_
  rintro e w1 ⟨ov1,v1,b1,rfl,hh,ss,kk⟩
  have HD1:Hid (DSt w0 p bM #[.slice o0 n0 k0,.slice o1 n1 k1,.slice o2 n2 k2,.slice o3 n3 k3,.slice o4 n4 k4,.slice o5 n5 k5,.slice o6 n6 k6,.slice o7 n7 k7,.slice o8 n8 k8,.slice o9 n9 k9] w v (id++fstB (sb m) 1) ov1 v1 b1 w1):=hideR (HD0.out.next HBW.out hh (by rw [HB1.out,<- List.append_assoc];exact ss) kk)
  clear hh ss kk HC2 HBW HD0
  go_wp2_with fail
  have HC:Hid (∀wz,Below w1.heap.size w1 wz->Calls Tryz.prog 64 #[.agg #[.slice o0 n0 k0,.slice o1 n1 k1,.slice o2 n2 k2,.slice o3 n3 k3,.slice o4 n4 k4,.slice o5 n5 k5,.slice o6 n6 k6,.slice o7 n7 k7,.slice o8 n8 k8,.slice o9 n9 k9]] wz (PMade wz (lisB impB m.imports))):=hideR fun wz hb=>dImp d _ _ _ _ _ _ _ _ _ _ m wz (HM.out.on (HD1.out.ps.on hb).below) (HW.out.imports)
  refine Reg.wp_region_two 6 (fun i=>11+i) (GSec p bM 1 (.slice o1 n1 k1) n1 (.agg #[.slice o0 n0 k0,.slice o1 n1 k1,.slice o2 n2 k2,.slice o3 n3 k3,.slice o4 n4 k4,.slice o5 n5 k5,.slice o6 n6 k6,.slice o7 n7 k7,.slice o8 n8 k8,.slice o9 n9 k9]) w1 (lisB impB m.imports)) (by kernel_rfl) (by kernel_rfl) (fun i j h1 h2 h=>by have h':11+i=11+j:=h;omega) (Reg.dst_ok (size:=87) (by kernel_rfl)) (fun i v w w' hi h hb=>GSec_on i v w w' hi h hb) ?hstep ?htail
  case hstep =>
   intro i o a wz hi ho hF hB hd
   have f0:a.tmps[0]?.getD undef=.pointer (some ⟨p,0,none⟩):=Reg.ev_get (hF.eval 0 (fun i hi=>by show 11+i≠0;omega))
   have f3:a.tmps[3]?.getD undef=.pointer (some ⟨bM,0,none⟩):=Reg.ev_get (hF.eval 3 (fun i hi=>by show 11+i≠3;omega))
   have hbx:Bx wz bM 32 #[.slice o0 n0 k0,.slice o1 n1 k1,.slice o2 n2 k2,.slice o3 n3 k3,.slice o4 n4 k4,.slice o5 n5 k5,.slice o6 n6 k6,.slice o7 n7 k7,.slice o8 n8 k8,.slice o9 n9 k9]:=by unfold Bx;rw [hB.block _ HD1.out.bx.lt];exact HD1.out.bx
   have q0:=hbx.cell 0 _ rfl
   have q1:=hbx.cell 1 _ rfl
   have q2:=hbx.cell 2 _ rfl
   have q3:=hbx.cell 3 _ rfl
   have q4:=hbx.cell 4 _ rfl
   have q5:=hbx.cell 5 _ rfl
   have q6:=hbx.cell 6 _ rfl
   have q7:=hbx.cell 7 _ rfl
   have q8:=hbx.cell 8 _ rfl
   have q9:=hbx.cell 9 _ rfl
   have hcase:i=0\/i=1\/i=2\/i=3\/i=4\/i=5:=by omega
   clear hi hbx
   rcases hcase with rfl|rfl|rfl|rfl|rfl|rfl
   all_goals (simp only [List.getElem?_toArray,List.getElem?_cons_succ,List.getElem?_cons_zero,Option.some.injEq] at ho;subst ho)
   ·refine Reg.step_k fun K hK=>?_
    go_simp
    exact hK _ _ ⟨_,rfl,Below.refl _ _,rfl⟩
   ·refine Reg.step_k fun K hK=>?_
    go_simp
    exact hK _ _ ⟨_,rfl,Below.refl _ _,rfl⟩
   ·have x0:a.tmps[12]?.getD undef=.pointer (some ⟨bM,1,none⟩):=Reg.ev_get (hd 1 (by decide))
    refine Reg.step_k fun K hK=>?_
    go_simp
    exact hK _ _ ⟨_,rfl,Below.refl _ _,rfl⟩
   ·have x0:a.tmps[13]?.getD undef=.slice o1 n1 k1:=Reg.ev_get (hd 2 (by decide))
    refine Reg.step_k fun K hK=>?_
    go_simp
    exact hK _ _ ⟨_,rfl,Below.refl _ _,rfl⟩
   ·refine Reg.step_k fun K hK=>?_
    go_simp
    exact hK _ _ ⟨_,rfl,Below.refl _ _,rfl⟩
   ·have x0:a.tmps[15]?.getD undef=.agg #[.slice o0 n0 k0,.slice o1 n1 k1,.slice o2 n2 k2,.slice o3 n3 k3,.slice o4 n4 k4,.slice o5 n5 k5,.slice o6 n6 k6,.slice o7 n7 k7,.slice o8 n8 k8,.slice o9 n9 k9]:=Reg.ev_get (hd 4 (by decide))
    refine Reg.step_k fun K hK=>?_
    have HKK:=hideR hK
    have HCW:=hideR (HC.out wz hB)
    have HBB:=hideR hB
    clear hK hd hF hB q0 q1 q2 q3 q4 q5 q6 q7 q8 q9
    go_simp
    refine HCW.out.mono ?_
    rintro e wy ⟨r,oq,u,bq,rfl,hr,hs⟩
    exact HKK.out _ _ ⟨_,rfl,hr.below,⟨r,oq,u,bq,rfl,hr.mono HBB.out,hs⟩⟩
  case htail =>
   intro a wz hF hB hG
   have g0:a.eval (.tmp 11)=.pointer (some ⟨p,0,none⟩):=hG 0 (by omega)
   have g3:a.eval (.tmp 14)=.int .i64 (n1:Nat):=hG 3 (by omega)
   obtain ⟨rq,oq,uq,bq,g5,hq,sq⟩:=(show ∃r oq u bq,a.eval (.tmp 16)=.pointer (some ⟨r,0,none⟩)/\PS w1 r oq u bq wz/\St (lisB impB m.imports) oq bq from hG 5 (by omega))
   obtain ⟨xl,hxl,rfl,hev⟩:=hF.lit (by simp)
   obtain ⟨x0,x1,x2,x3,x4,x5,rfl⟩:=len6 hxl
   have e0:=hev 0 (by omega)
   have e3:=hev 3 (by omega)
   have e5:=hev 5 (by omega)
   simp only [List.getD_cons_succ,List.getD_cons_zero] at e0 e3 e5
   rw [show (11+0)=11 from rfl,g0] at e0
   rw [show (11+3)=14 from rfl,g3] at e3
   rw [show (11+5)=16 from rfl,g5] at e5
   subst e0 e3 e5
   clear hev hxl hF hG g0 g3 g5
   simp only [List.take_succ_cons,List.take_zero,List.drop_succ_cons,List.drop_zero,List.cons_append,List.nil_append]
   have HC2:=hideR (dSection w0 w1 p rq ov1 oq v1 uq b1 _ bq ((lisB impB m.imports)) 2 n1 wz (HD1.out.ps.on hq.below) HD1.out.st hq sq HD1.out.ps.lt hq.below (fun b hb=>(HD1.out.ps.own.lt b hb).2) (by omega) (HLL.out.2.1))
   have HBW:=hideR hq.below
   clear hq sq HC hB
   go_wp2_with fail
   refine HC2.out.mono ?_
   rintro e w2 ⟨ov2,v2,b2,rfl,hh,ss,kk⟩
   have HD2:Hid (DSt w0 p bM #[.slice o0 n0 k0,.slice o1 n1 k1,.slice o2 n2 k2,.slice o3 n3 k3,.slice o4 n4 k4,.slice o5 n5 k5,.slice o6 n6 k6,.slice o7 n7 k7,.slice o8 n8 k8,.slice o9 n9 k9] w v (id++fstB (sb m) 2) ov2 v2 b2 w2):=hideR (HD1.out.next HBW.out hh (by rw [HB2.out,<- List.append_assoc];exact ss) kk)
   clear hh ss kk HC2 HBW HD1
   go_wp2_with fail
   have HC:Hid (∀wz,Below w2.heap.size w2 wz->Calls Tryz.prog 65 #[.agg #[.slice o0 n0 k0,.slice o1 n1 k1,.slice o2 n2 k2,.slice o3 n3 k3,.slice o4 n4 k4,.slice o5 n5 k5,.slice o6 n6 k6,.slice o7 n7 k7,.slice o8 n8 k8,.slice o9 n9 k9]] wz (PMade wz (lisB (fun x=>Leb.uB x.type) m.funcs))):=hideR fun wz hb=>dFun d _ _ _ _ _ _ _ _ _ _ m wz (HM.out.on (HD2.out.ps.on hb).below) (fun x hx=>(HW.out.funcs x hx).1)
   refine Reg.wp_region_two 6 (fun i=>18+i) (GSec p bM 2 (.slice o2 n2 k2) n2 (.agg #[.slice o0 n0 k0,.slice o1 n1 k1,.slice o2 n2 k2,.slice o3 n3 k3,.slice o4 n4 k4,.slice o5 n5 k5,.slice o6 n6 k6,.slice o7 n7 k7,.slice o8 n8 k8,.slice o9 n9 k9]) w2 (lisB (fun x=>Leb.uB x.type) m.funcs)) (by kernel_rfl) (by kernel_rfl) (fun i j h1 h2 h=>by have h':18+i=18+j:=h;omega) (Reg.dst_ok (size:=87) (by kernel_rfl)) (fun i v w w' hi h hb=>GSec_on i v w w' hi h hb) ?hstep ?htail
   case hstep =>
    intro i o a wz hi ho hF hB hd
    have f0:a.tmps[0]?.getD undef=.pointer (some ⟨p,0,none⟩):=Reg.ev_get (hF.eval 0 (fun i hi=>by show 18+i≠0;omega))
    have f3:a.tmps[3]?.getD undef=.pointer (some ⟨bM,0,none⟩):=Reg.ev_get (hF.eval 3 (fun i hi=>by show 18+i≠3;omega))
    have hbx:Bx wz bM 32 #[.slice o0 n0 k0,.slice o1 n1 k1,.slice o2 n2 k2,.slice o3 n3 k3,.slice o4 n4 k4,.slice o5 n5 k5,.slice o6 n6 k6,.slice o7 n7 k7,.slice o8 n8 k8,.slice o9 n9 k9]:=by unfold Bx;rw [hB.block _ HD2.out.bx.lt];exact HD2.out.bx
    have q0:=hbx.cell 0 _ rfl
    have q1:=hbx.cell 1 _ rfl
    have q2:=hbx.cell 2 _ rfl
    have q3:=hbx.cell 3 _ rfl
    have q4:=hbx.cell 4 _ rfl
    have q5:=hbx.cell 5 _ rfl
    have q6:=hbx.cell 6 _ rfl
    have q7:=hbx.cell 7 _ rfl
    have q8:=hbx.cell 8 _ rfl
    have q9:=hbx.cell 9 _ rfl
    have hcase:i=0\/i=1\/i=2\/i=3\/i=4\/i=5:=by omega
    clear hi hbx
    rcases hcase with rfl|rfl|rfl|rfl|rfl|rfl
    all_goals (simp only [List.getElem?_toArray,List.getElem?_cons_succ,List.getElem?_cons_zero,Option.some.injEq] at ho;subst ho)
    ·refine Reg.step_k fun K hK=>?_
     go_simp
     exact hK _ _ ⟨_,rfl,Below.refl _ _,rfl⟩
    ·refine Reg.step_k fun K hK=>?_
     go_simp
     exact hK _ _ ⟨_,rfl,Below.refl _ _,rfl⟩
    ·have x0:a.tmps[19]?.getD undef=.pointer (some ⟨bM,2,none⟩):=Reg.ev_get (hd 1 (by decide))
     refine Reg.step_k fun K hK=>?_
     go_simp
     exact hK _ _ ⟨_,rfl,Below.refl _ _,rfl⟩
    ·have x0:a.tmps[20]?.getD undef=.slice o2 n2 k2:=Reg.ev_get (hd 2 (by decide))
     refine Reg.step_k fun K hK=>?_
     go_simp
     exact hK _ _ ⟨_,rfl,Below.refl _ _,rfl⟩
    ·refine Reg.step_k fun K hK=>?_
     go_simp
     exact hK _ _ ⟨_,rfl,Below.refl _ _,rfl⟩
    ·have x0:a.tmps[22]?.getD undef=.agg #[.slice o0 n0 k0,.slice o1 n1 k1,.slice o2 n2 k2,.slice o3 n3 k3,.slice o4 n4 k4,.slice o5 n5 k5,.slice o6 n6 k6,.slice o7 n7 k7,.slice o8 n8 k8,.slice o9 n9 k9]:=Reg.ev_get (hd 4 (by decide))
     refine Reg.step_k fun K hK=>?_
     have HKK:=hideR hK
     have HCW:=hideR (HC.out wz hB)
     have HBB:=hideR hB
     clear hK hd hF hB q0 q1 q2 q3 q4 q5 q6 q7 q8 q9
     go_simp
     refine HCW.out.mono ?_
     rintro e wy ⟨r,oq,u,bq,rfl,hr,hs⟩
     exact HKK.out _ _ ⟨_,rfl,hr.below,⟨r,oq,u,bq,rfl,hr.mono HBB.out,hs⟩⟩
   case htail =>
    intro a wz hF hB hG
    have g0:a.eval (.tmp 18)=.pointer (some ⟨p,0,none⟩):=hG 0 (by omega)
    have g3:a.eval (.tmp 21)=.int .i64 (n2:Nat):=hG 3 (by omega)
    obtain ⟨rq,oq,uq,bq,g5,hq,sq⟩:=(show ∃r oq u bq,a.eval (.tmp 23)=.pointer (some ⟨r,0,none⟩)/\PS w2 r oq u bq wz/\St (lisB (fun x=>Leb.uB x.type) m.funcs) oq bq from hG 5 (by omega))
    obtain ⟨xl,hxl,rfl,hev⟩:=hF.lit (by simp)
    obtain ⟨x0,x1,x2,x3,x4,x5,rfl⟩:=len6 hxl
    have e0:=hev 0 (by omega)
    have e3:=hev 3 (by omega)
    have e5:=hev 5 (by omega)
    simp only [List.getD_cons_succ,List.getD_cons_zero] at e0 e3 e5
    rw [show (18+0)=18 from rfl,g0] at e0
    rw [show (18+3)=21 from rfl,g3] at e3
    rw [show (18+5)=23 from rfl,g5] at e5
    subst e0 e3 e5
    clear hev hxl hF hG g0 g3 g5
    simp only [List.take_succ_cons,List.take_zero,List.drop_succ_cons,List.drop_zero,List.cons_append,List.nil_append]
    have HC2:=hideR (dSection w0 w2 p rq ov2 oq v2 uq b2 _ bq ((lisB (fun x=>Leb.uB x.type) m.funcs)) 3 n2 wz (HD2.out.ps.on hq.below) HD2.out.st hq sq HD2.out.ps.lt hq.below (fun b hb=>(HD2.out.ps.own.lt b hb).2) (by omega) (HLL.out.2.2.1))
    have HBW:=hideR hq.below
    clear hq sq HC hB
    go_wp2_with fail
    refine HC2.out.mono ?_
    rintro e w3 ⟨ov3,v3,b3,rfl,hh,ss,kk⟩
    have HD3:Hid (DSt w0 p bM #[.slice o0 n0 k0,.slice o1 n1 k1,.slice o2 n2 k2,.slice o3 n3 k3,.slice o4 n4 k4,.slice o5 n5 k5,.slice o6 n6 k6,.slice o7 n7 k7,.slice o8 n8 k8,.slice o9 n9 k9] w v (id++fstB (sb m) 3) ov3 v3 b3 w3):=hideR (HD2.out.next HBW.out hh (by rw [HB3.out,<- List.append_assoc];exact ss) kk)
    clear hh ss kk HC2 HBW HD2
    go_wp2_with fail
    have HC:Hid (∀wz,Below w3.heap.size w3 wz->Calls Tryz.prog 66 #[(.slice o3 n3 k3),.string ⟨#[112]⟩] wz (PMade wz (lisB (fun x=>[112]++limB x) m.tables))):=hideR fun wz hb=>by
     have:=dLimited (.slice o3 n3 k3) m.tables ⟨#[112]⟩ wz (HM.out.on (HD3.out.ps.on hb).below).tables (HW.out.tables) (by decide)
     rw [lims_tab] at this;exact this
    refine Reg.wp_region_two 7 (fun i=>25+i) (GLim p bM 3 (.slice o3 n3 k3) n3 w3 (lisB (fun x=>[112]++limB x) m.tables)) (by kernel_rfl) (by kernel_rfl) (fun i j h1 h2 h=>by have h':25+i=25+j:=h;omega) (Reg.dst_ok (size:=87) (by kernel_rfl)) (fun i v w w' hi h hb=>GLim_on i v w w' hi h hb) ?hstep ?htail
    case hstep =>
     intro i o a wz hi ho hF hB hd
     have f0:a.tmps[0]?.getD undef=.pointer (some ⟨p,0,none⟩):=Reg.ev_get (hF.eval 0 (fun i hi=>by show 25+i≠0;omega))
     have f3:a.tmps[3]?.getD undef=.pointer (some ⟨bM,0,none⟩):=Reg.ev_get (hF.eval 3 (fun i hi=>by show 25+i≠3;omega))
     have hbx:Bx wz bM 32 #[.slice o0 n0 k0,.slice o1 n1 k1,.slice o2 n2 k2,.slice o3 n3 k3,.slice o4 n4 k4,.slice o5 n5 k5,.slice o6 n6 k6,.slice o7 n7 k7,.slice o8 n8 k8,.slice o9 n9 k9]:=by unfold Bx;rw [hB.block _ HD3.out.bx.lt];exact HD3.out.bx
     have q0:=hbx.cell 0 _ rfl
     have q1:=hbx.cell 1 _ rfl
     have q2:=hbx.cell 2 _ rfl
     have q3:=hbx.cell 3 _ rfl
     have q4:=hbx.cell 4 _ rfl
     have q5:=hbx.cell 5 _ rfl
     have q6:=hbx.cell 6 _ rfl
     have q7:=hbx.cell 7 _ rfl
     have q8:=hbx.cell 8 _ rfl
     have q9:=hbx.cell 9 _ rfl
     have hcase:i=0\/i=1\/i=2\/i=3\/i=4\/i=5\/i=6:=by omega
     clear hi hbx
     rcases hcase with rfl|rfl|rfl|rfl|rfl|rfl|rfl
     all_goals (simp only [List.getElem?_toArray,List.getElem?_cons_succ,List.getElem?_cons_zero,Option.some.injEq] at ho;subst ho)
     ·refine Reg.step_k fun K hK=>?_
      go_simp
      exact hK _ _ ⟨_,rfl,Below.refl _ _,rfl⟩
     ·refine Reg.step_k fun K hK=>?_
      go_simp
      exact hK _ _ ⟨_,rfl,Below.refl _ _,rfl⟩
     ·have x0:a.tmps[26]?.getD undef=.pointer (some ⟨bM,3,none⟩):=Reg.ev_get (hd 1 (by decide))
      refine Reg.step_k fun K hK=>?_
      go_simp
      exact hK _ _ ⟨_,rfl,Below.refl _ _,rfl⟩
     ·have x0:a.tmps[27]?.getD undef=.slice o3 n3 k3:=Reg.ev_get (hd 2 (by decide))
      refine Reg.step_k fun K hK=>?_
      go_simp
      exact hK _ _ ⟨_,rfl,Below.refl _ _,rfl⟩
     ·refine Reg.step_k fun K hK=>?_
      go_simp
      exact hK _ _ ⟨_,rfl,Below.refl _ _,rfl⟩
     ·have x0:a.tmps[29]?.getD undef=.pointer (some ⟨bM,3,none⟩):=Reg.ev_get (hd 4 (by decide))
      refine Reg.step_k fun K hK=>?_
      go_simp
      exact hK _ _ ⟨_,rfl,Below.refl _ _,rfl⟩
     ·have x0:a.tmps[30]?.getD undef=.slice o3 n3 k3:=Reg.ev_get (hd 5 (by decide))
      refine Reg.step_k fun K hK=>?_
      have HKK:=hideR hK
      have HCW:=hideR (HC.out wz hB)
      have HBB:=hideR hB
      clear hK hd hF hB q0 q1 q2 q3 q4 q5 q6 q7 q8 q9
      go_simp
      refine HCW.out.mono ?_
      rintro e wy ⟨r,oq,u,bq,rfl,hr,hs⟩
      exact HKK.out _ _ ⟨_,rfl,hr.below,⟨r,oq,u,bq,rfl,hr.mono HBB.out,hs⟩⟩
    case htail =>
     intro a wz hF hB hG
     have g0:a.eval (.tmp 25)=.pointer (some ⟨p,0,none⟩):=hG 0 (by omega)
     have g3:a.eval (.tmp 28)=.int .i64 (n3:Nat):=hG 3 (by omega)
     obtain ⟨rq,oq,uq,bq,g5,hq,sq⟩:=(show ∃r oq u bq,a.eval (.tmp 31)=.pointer (some ⟨r,0,none⟩)/\PS w3 r oq u bq wz/\St (lisB (fun x=>[112]++limB x) m.tables) oq bq from hG 6 (by omega))
     obtain ⟨xl,hxl,rfl,hev⟩:=hF.lit (by simp)
     obtain ⟨x0,x1,x2,x3,x4,x5,x6,rfl⟩:=len7 hxl
     have e0:=hev 0 (by omega)
     have e3:=hev 3 (by omega)
     have e5:=hev 6 (by omega)
     simp only [List.getD_cons_succ,List.getD_cons_zero] at e0 e3 e5
     rw [show (25+0)=25 from rfl,g0] at e0
     rw [show (25+3)=28 from rfl,g3] at e3
     rw [show (25+6)=31 from rfl,g5] at e5
     subst e0 e3 e5
     clear hev hxl hF hG g0 g3 g5
     simp only [List.take_succ_cons,List.take_zero,List.drop_succ_cons,List.drop_zero,List.cons_append,List.nil_append]
     have HC2:=hideR (dSection w0 w3 p rq ov3 oq v3 uq b3 _ bq ((lisB (fun x=>[112]++limB x) m.tables)) 4 n3 wz (HD3.out.ps.on hq.below) HD3.out.st hq sq HD3.out.ps.lt hq.below (fun b hb=>(HD3.out.ps.own.lt b hb).2) (by omega) (HLL.out.2.2.2.1))
     have HBW:=hideR hq.below
     clear hq sq HC hB
     go_wp2_with fail
     refine HC2.out.mono ?_
     rintro e w4 ⟨ov4,v4,b4,rfl,hh,ss,kk⟩
     have HD4:Hid (DSt w0 p bM #[.slice o0 n0 k0,.slice o1 n1 k1,.slice o2 n2 k2,.slice o3 n3 k3,.slice o4 n4 k4,.slice o5 n5 k5,.slice o6 n6 k6,.slice o7 n7 k7,.slice o8 n8 k8,.slice o9 n9 k9] w v (id++fstB (sb m) 4) ov4 v4 b4 w4):=hideR (HD3.out.next HBW.out hh (by rw [HB4.out,<- List.append_assoc];exact ss) kk)
     clear hh ss kk HC2 HBW HD3
     go_wp2_with fail
     have HC:Hid (∀wz,Below w4.heap.size w4 wz->Calls Tryz.prog 66 #[(.slice o4 n4 k4),.string ⟨#[]⟩] wz (PMade wz (lisB limB m.mems))):=hideR fun wz hb=>by
      have:=dLimited (.slice o4 n4 k4) m.mems ⟨#[]⟩ wz (HM.out.on (HD4.out.ps.on hb).below).mems (HW.out.mems) (by decide)
      rw [lims_mem] at this;exact this
     refine Reg.wp_region_two 7 (fun i=>33+i) (GLim p bM 4 (.slice o4 n4 k4) n4 w4 (lisB limB m.mems)) (by kernel_rfl) (by kernel_rfl) (fun i j h1 h2 h=>by have h':33+i=33+j:=h;omega) (Reg.dst_ok (size:=87) (by kernel_rfl)) (fun i v w w' hi h hb=>GLim_on i v w w' hi h hb) ?hstep ?htail
     case hstep =>
      intro i o a wz hi ho hF hB hd
      have f0:a.tmps[0]?.getD undef=.pointer (some ⟨p,0,none⟩):=Reg.ev_get (hF.eval 0 (fun i hi=>by show 33+i≠0;omega))
      have f3:a.tmps[3]?.getD undef=.pointer (some ⟨bM,0,none⟩):=Reg.ev_get (hF.eval 3 (fun i hi=>by show 33+i≠3;omega))
      have hbx:Bx wz bM 32 #[.slice o0 n0 k0,.slice o1 n1 k1,.slice o2 n2 k2,.slice o3 n3 k3,.slice o4 n4 k4,.slice o5 n5 k5,.slice o6 n6 k6,.slice o7 n7 k7,.slice o8 n8 k8,.slice o9 n9 k9]:=by unfold Bx;rw [hB.block _ HD4.out.bx.lt];exact HD4.out.bx
      have q0:=hbx.cell 0 _ rfl
      have q1:=hbx.cell 1 _ rfl
      have q2:=hbx.cell 2 _ rfl
      have q3:=hbx.cell 3 _ rfl
      have q4:=hbx.cell 4 _ rfl
      have q5:=hbx.cell 5 _ rfl
      have q6:=hbx.cell 6 _ rfl
      have q7:=hbx.cell 7 _ rfl
      have q8:=hbx.cell 8 _ rfl
      have q9:=hbx.cell 9 _ rfl
      have hcase:i=0\/i=1\/i=2\/i=3\/i=4\/i=5\/i=6:=by omega
      clear hi hbx
      rcases hcase with rfl|rfl|rfl|rfl|rfl|rfl|rfl
      all_goals (simp only [List.getElem?_toArray,List.getElem?_cons_succ,List.getElem?_cons_zero,Option.some.injEq] at ho;subst ho)
      ·refine Reg.step_k fun K hK=>?_
       go_simp
       exact hK _ _ ⟨_,rfl,Below.refl _ _,rfl⟩
      ·refine Reg.step_k fun K hK=>?_
       go_simp
       exact hK _ _ ⟨_,rfl,Below.refl _ _,rfl⟩
      ·have x0:a.tmps[34]?.getD undef=.pointer (some ⟨bM,4,none⟩):=Reg.ev_get (hd 1 (by decide))
       refine Reg.step_k fun K hK=>?_
       go_simp
       exact hK _ _ ⟨_,rfl,Below.refl _ _,rfl⟩
      ·have x0:a.tmps[35]?.getD undef=.slice o4 n4 k4:=Reg.ev_get (hd 2 (by decide))
       refine Reg.step_k fun K hK=>?_
       go_simp
       exact hK _ _ ⟨_,rfl,Below.refl _ _,rfl⟩
      ·refine Reg.step_k fun K hK=>?_
       go_simp
       exact hK _ _ ⟨_,rfl,Below.refl _ _,rfl⟩
      ·have x0:a.tmps[37]?.getD undef=.pointer (some ⟨bM,4,none⟩):=Reg.ev_get (hd 4 (by decide))
       refine Reg.step_k fun K hK=>?_
       go_simp
       exact hK _ _ ⟨_,rfl,Below.refl _ _,rfl⟩
      ·have x0:a.tmps[38]?.getD undef=.slice o4 n4 k4:=Reg.ev_get (hd 5 (by decide))
       refine Reg.step_k fun K hK=>?_
       have HKK:=hideR hK
       have HCW:=hideR (HC.out wz hB)
       have HBB:=hideR hB
       clear hK hd hF hB q0 q1 q2 q3 q4 q5 q6 q7 q8 q9
       go_simp
       refine HCW.out.mono ?_
       rintro e wy ⟨r,oq,u,bq,rfl,hr,hs⟩
       exact HKK.out _ _ ⟨_,rfl,hr.below,⟨r,oq,u,bq,rfl,hr.mono HBB.out,hs⟩⟩
     case htail =>
      intro a wz hF hB hG
      have g0:a.eval (.tmp 33)=.pointer (some ⟨p,0,none⟩):=hG 0 (by omega)
      have g3:a.eval (.tmp 36)=.int .i64 (n4:Nat):=hG 3 (by omega)
      obtain ⟨rq,oq,uq,bq,g5,hq,sq⟩:=(show ∃r oq u bq,a.eval (.tmp 39)=.pointer (some ⟨r,0,none⟩)/\PS w4 r oq u bq wz/\St (lisB limB m.mems) oq bq from hG 6 (by omega))
      obtain ⟨xl,hxl,rfl,hev⟩:=hF.lit (by simp)
      obtain ⟨x0,x1,x2,x3,x4,x5,x6,rfl⟩:=len7 hxl
      have e0:=hev 0 (by omega)
      have e3:=hev 3 (by omega)
      have e5:=hev 6 (by omega)
      simp only [List.getD_cons_succ,List.getD_cons_zero] at e0 e3 e5
      rw [show (33+0)=33 from rfl,g0] at e0
      rw [show (33+3)=36 from rfl,g3] at e3
      rw [show (33+6)=39 from rfl,g5] at e5
      subst e0 e3 e5
      clear hev hxl hF hG g0 g3 g5
      simp only [List.take_succ_cons,List.take_zero,List.drop_succ_cons,List.drop_zero,List.cons_append,List.nil_append]
      have HC2:=hideR (dSection w0 w4 p rq ov4 oq v4 uq b4 _ bq ((lisB limB m.mems)) 5 n4 wz (HD4.out.ps.on hq.below) HD4.out.st hq sq HD4.out.ps.lt hq.below (fun b hb=>(HD4.out.ps.own.lt b hb).2) (by omega) (HLL.out.2.2.2.2.1))
      have HBW:=hideR hq.below
      clear hq sq HC hB
      go_wp2_with fail
      refine HC2.out.mono ?_
      rintro e w5 ⟨ov5,v5,b5,rfl,hh,ss,kk⟩
      have HD5:Hid (DSt w0 p bM #[.slice o0 n0 k0,.slice o1 n1 k1,.slice o2 n2 k2,.slice o3 n3 k3,.slice o4 n4 k4,.slice o5 n5 k5,.slice o6 n6 k6,.slice o7 n7 k7,.slice o8 n8 k8,.slice o9 n9 k9] w v (id++fstB (sb m) 5) ov5 v5 b5 w5):=hideR (HD4.out.next HBW.out hh (by rw [HB5.out,<- List.append_assoc];exact ss) kk)
      clear hh ss kk HC2 HBW HD4
      go_wp2_with fail
      have HC:Hid (∀wz,Below w5.heap.size w5 wz->Calls Tryz.prog 67 #[.agg #[.slice o0 n0 k0,.slice o1 n1 k1,.slice o2 n2 k2,.slice o3 n3 k3,.slice o4 n4 k4,.slice o5 n5 k5,.slice o6 n6 k6,.slice o7 n7 k7,.slice o8 n8 k8,.slice o9 n9 k9]] wz (PMade wz (lisB gloB m.globals))):=hideR fun wz hb=>dGlo d _ _ _ _ _ _ _ _ _ _ m wz (HM.out.on (HD5.out.ps.on hb).below) (HW.out.globals)
      refine Reg.wp_region_two 6 (fun i=>41+i) (GSec p bM 5 (.slice o5 n5 k5) n5 (.agg #[.slice o0 n0 k0,.slice o1 n1 k1,.slice o2 n2 k2,.slice o3 n3 k3,.slice o4 n4 k4,.slice o5 n5 k5,.slice o6 n6 k6,.slice o7 n7 k7,.slice o8 n8 k8,.slice o9 n9 k9]) w5 (lisB gloB m.globals)) (by kernel_rfl) (by kernel_rfl) (fun i j h1 h2 h=>by have h':41+i=41+j:=h;omega) (Reg.dst_ok (size:=87) (by kernel_rfl)) (fun i v w w' hi h hb=>GSec_on i v w w' hi h hb) ?hstep ?htail
      case hstep =>
       intro i o a wz hi ho hF hB hd
       have f0:a.tmps[0]?.getD undef=.pointer (some ⟨p,0,none⟩):=Reg.ev_get (hF.eval 0 (fun i hi=>by show 41+i≠0;omega))
       have f3:a.tmps[3]?.getD undef=.pointer (some ⟨bM,0,none⟩):=Reg.ev_get (hF.eval 3 (fun i hi=>by show 41+i≠3;omega))
       have hbx:Bx wz bM 32 #[.slice o0 n0 k0,.slice o1 n1 k1,.slice o2 n2 k2,.slice o3 n3 k3,.slice o4 n4 k4,.slice o5 n5 k5,.slice o6 n6 k6,.slice o7 n7 k7,.slice o8 n8 k8,.slice o9 n9 k9]:=by unfold Bx;rw [hB.block _ HD5.out.bx.lt];exact HD5.out.bx
       have q0:=hbx.cell 0 _ rfl
       have q1:=hbx.cell 1 _ rfl
       have q2:=hbx.cell 2 _ rfl
       have q3:=hbx.cell 3 _ rfl
       have q4:=hbx.cell 4 _ rfl
       have q5:=hbx.cell 5 _ rfl
       have q6:=hbx.cell 6 _ rfl
       have q7:=hbx.cell 7 _ rfl
       have q8:=hbx.cell 8 _ rfl
       have q9:=hbx.cell 9 _ rfl
       have hcase:i=0\/i=1\/i=2\/i=3\/i=4\/i=5:=by omega
       clear hi hbx
       rcases hcase with rfl|rfl|rfl|rfl|rfl|rfl
       all_goals (simp only [List.getElem?_toArray,List.getElem?_cons_succ,List.getElem?_cons_zero,Option.some.injEq] at ho;subst ho)
       ·refine Reg.step_k fun K hK=>?_
        go_simp
        exact hK _ _ ⟨_,rfl,Below.refl _ _,rfl⟩
       ·refine Reg.step_k fun K hK=>?_
        go_simp
        exact hK _ _ ⟨_,rfl,Below.refl _ _,rfl⟩
       ·have x0:a.tmps[42]?.getD undef=.pointer (some ⟨bM,5,none⟩):=Reg.ev_get (hd 1 (by decide))
        refine Reg.step_k fun K hK=>?_
        go_simp
        exact hK _ _ ⟨_,rfl,Below.refl _ _,rfl⟩
       ·have x0:a.tmps[43]?.getD undef=.slice o5 n5 k5:=Reg.ev_get (hd 2 (by decide))
        refine Reg.step_k fun K hK=>?_
        go_simp
        exact hK _ _ ⟨_,rfl,Below.refl _ _,rfl⟩
       ·refine Reg.step_k fun K hK=>?_
        go_simp
        exact hK _ _ ⟨_,rfl,Below.refl _ _,rfl⟩
       ·have x0:a.tmps[45]?.getD undef=.agg #[.slice o0 n0 k0,.slice o1 n1 k1,.slice o2 n2 k2,.slice o3 n3 k3,.slice o4 n4 k4,.slice o5 n5 k5,.slice o6 n6 k6,.slice o7 n7 k7,.slice o8 n8 k8,.slice o9 n9 k9]:=Reg.ev_get (hd 4 (by decide))
        refine Reg.step_k fun K hK=>?_
        have HKK:=hideR hK
        have HCW:=hideR (HC.out wz hB)
        have HBB:=hideR hB
        clear hK hd hF hB q0 q1 q2 q3 q4 q5 q6 q7 q8 q9
        go_simp
        refine HCW.out.mono ?_
        rintro e wy ⟨r,oq,u,bq,rfl,hr,hs⟩
        exact HKK.out _ _ ⟨_,rfl,hr.below,⟨r,oq,u,bq,rfl,hr.mono HBB.out,hs⟩⟩
      case htail =>
       intro a wz hF hB hG
       have g0:a.eval (.tmp 41)=.pointer (some ⟨p,0,none⟩):=hG 0 (by omega)
       have g3:a.eval (.tmp 44)=.int .i64 (n5:Nat):=hG 3 (by omega)
       obtain ⟨rq,oq,uq,bq,g5,hq,sq⟩:=(show ∃r oq u bq,a.eval (.tmp 46)=.pointer (some ⟨r,0,none⟩)/\PS w5 r oq u bq wz/\St (lisB gloB m.globals) oq bq from hG 5 (by omega))
       obtain ⟨xl,hxl,rfl,hev⟩:=hF.lit (by simp)
       obtain ⟨x0,x1,x2,x3,x4,x5,rfl⟩:=len6 hxl
       have e0:=hev 0 (by omega)
       have e3:=hev 3 (by omega)
       have e5:=hev 5 (by omega)
       simp only [List.getD_cons_succ,List.getD_cons_zero] at e0 e3 e5
       rw [show (41+0)=41 from rfl,g0] at e0
       rw [show (41+3)=44 from rfl,g3] at e3
       rw [show (41+5)=46 from rfl,g5] at e5
       subst e0 e3 e5
       clear hev hxl hF hG g0 g3 g5
       simp only [List.take_succ_cons,List.take_zero,List.drop_succ_cons,List.drop_zero,List.cons_append,List.nil_append]
       have HC2:=hideR (dSection w0 w5 p rq ov5 oq v5 uq b5 _ bq ((lisB gloB m.globals)) 6 n5 wz (HD5.out.ps.on hq.below) HD5.out.st hq sq HD5.out.ps.lt hq.below (fun b hb=>(HD5.out.ps.own.lt b hb).2) (by omega) (HLL.out.2.2.2.2.2.1))
       have HBW:=hideR hq.below
       clear hq sq HC hB
       go_wp2_with fail
       refine HC2.out.mono ?_
       rintro e w6 ⟨ov6,v6,b6,rfl,hh,ss,kk⟩
       have HD6:Hid (DSt w0 p bM #[.slice o0 n0 k0,.slice o1 n1 k1,.slice o2 n2 k2,.slice o3 n3 k3,.slice o4 n4 k4,.slice o5 n5 k5,.slice o6 n6 k6,.slice o7 n7 k7,.slice o8 n8 k8,.slice o9 n9 k9] w v (id++fstB (sb m) 6) ov6 v6 b6 w6):=hideR (HD5.out.next HBW.out hh (by rw [HB6.out,<- List.append_assoc];exact ss) kk)
       clear hh ss kk HC2 HBW HD5
       go_wp2_with fail
       have HC:Hid (∀wz,Below w6.heap.size w6 wz->Calls Tryz.prog 68 #[.agg #[.slice o0 n0 k0,.slice o1 n1 k1,.slice o2 n2 k2,.slice o3 n3 k3,.slice o4 n4 k4,.slice o5 n5 k5,.slice o6 n6 k6,.slice o7 n7 k7,.slice o8 n8 k8,.slice o9 n9 k9]] wz (PMade wz (lisB expB m.exports))):=hideR fun wz hb=>dExp d _ _ _ _ _ _ _ _ _ _ m wz (HM.out.on (HD6.out.ps.on hb).below) (HW.out.exports)
       refine Reg.wp_region_two 6 (fun i=>48+i) (GSec p bM 6 (.slice o6 n6 k6) n6 (.agg #[.slice o0 n0 k0,.slice o1 n1 k1,.slice o2 n2 k2,.slice o3 n3 k3,.slice o4 n4 k4,.slice o5 n5 k5,.slice o6 n6 k6,.slice o7 n7 k7,.slice o8 n8 k8,.slice o9 n9 k9]) w6 (lisB expB m.exports)) (by kernel_rfl) (by kernel_rfl) (fun i j h1 h2 h=>by have h':48+i=48+j:=h;omega) (Reg.dst_ok (size:=87) (by kernel_rfl)) (fun i v w w' hi h hb=>GSec_on i v w w' hi h hb) ?hstep ?htail
       case hstep =>
        intro i o a wz hi ho hF hB hd
        have f0:a.tmps[0]?.getD undef=.pointer (some ⟨p,0,none⟩):=Reg.ev_get (hF.eval 0 (fun i hi=>by show 48+i≠0;omega))
        have f3:a.tmps[3]?.getD undef=.pointer (some ⟨bM,0,none⟩):=Reg.ev_get (hF.eval 3 (fun i hi=>by show 48+i≠3;omega))
        have hbx:Bx wz bM 32 #[.slice o0 n0 k0,.slice o1 n1 k1,.slice o2 n2 k2,.slice o3 n3 k3,.slice o4 n4 k4,.slice o5 n5 k5,.slice o6 n6 k6,.slice o7 n7 k7,.slice o8 n8 k8,.slice o9 n9 k9]:=by unfold Bx;rw [hB.block _ HD6.out.bx.lt];exact HD6.out.bx
        have q0:=hbx.cell 0 _ rfl
        have q1:=hbx.cell 1 _ rfl
        have q2:=hbx.cell 2 _ rfl
        have q3:=hbx.cell 3 _ rfl
        have q4:=hbx.cell 4 _ rfl
        have q5:=hbx.cell 5 _ rfl
        have q6:=hbx.cell 6 _ rfl
        have q7:=hbx.cell 7 _ rfl
        have q8:=hbx.cell 8 _ rfl
        have q9:=hbx.cell 9 _ rfl
        have hcase:i=0\/i=1\/i=2\/i=3\/i=4\/i=5:=by omega
        clear hi hbx
        rcases hcase with rfl|rfl|rfl|rfl|rfl|rfl
        all_goals (simp only [List.getElem?_toArray,List.getElem?_cons_succ,List.getElem?_cons_zero,Option.some.injEq] at ho;subst ho)
        ·refine Reg.step_k fun K hK=>?_
         go_simp
         exact hK _ _ ⟨_,rfl,Below.refl _ _,rfl⟩
        ·refine Reg.step_k fun K hK=>?_
         go_simp
         exact hK _ _ ⟨_,rfl,Below.refl _ _,rfl⟩
        ·have x0:a.tmps[49]?.getD undef=.pointer (some ⟨bM,6,none⟩):=Reg.ev_get (hd 1 (by decide))
         refine Reg.step_k fun K hK=>?_
         go_simp
         exact hK _ _ ⟨_,rfl,Below.refl _ _,rfl⟩
        ·have x0:a.tmps[50]?.getD undef=.slice o6 n6 k6:=Reg.ev_get (hd 2 (by decide))
         refine Reg.step_k fun K hK=>?_
         go_simp
         exact hK _ _ ⟨_,rfl,Below.refl _ _,rfl⟩
        ·refine Reg.step_k fun K hK=>?_
         go_simp
         exact hK _ _ ⟨_,rfl,Below.refl _ _,rfl⟩
        ·have x0:a.tmps[52]?.getD undef=.agg #[.slice o0 n0 k0,.slice o1 n1 k1,.slice o2 n2 k2,.slice o3 n3 k3,.slice o4 n4 k4,.slice o5 n5 k5,.slice o6 n6 k6,.slice o7 n7 k7,.slice o8 n8 k8,.slice o9 n9 k9]:=Reg.ev_get (hd 4 (by decide))
         refine Reg.step_k fun K hK=>?_
         have HKK:=hideR hK
         have HCW:=hideR (HC.out wz hB)
         have HBB:=hideR hB
         clear hK hd hF hB q0 q1 q2 q3 q4 q5 q6 q7 q8 q9
         go_simp
         refine HCW.out.mono ?_
         rintro e wy ⟨r,oq,u,bq,rfl,hr,hs⟩
         exact HKK.out _ _ ⟨_,rfl,hr.below,⟨r,oq,u,bq,rfl,hr.mono HBB.out,hs⟩⟩
       case htail =>
        intro a wz hF hB hG
        have g0:a.eval (.tmp 48)=.pointer (some ⟨p,0,none⟩):=hG 0 (by omega)
        have g3:a.eval (.tmp 51)=.int .i64 (n6:Nat):=hG 3 (by omega)
        obtain ⟨rq,oq,uq,bq,g5,hq,sq⟩:=(show ∃r oq u bq,a.eval (.tmp 53)=.pointer (some ⟨r,0,none⟩)/\PS w6 r oq u bq wz/\St (lisB expB m.exports) oq bq from hG 5 (by omega))
        obtain ⟨xl,hxl,rfl,hev⟩:=hF.lit (by simp)
        obtain ⟨x0,x1,x2,x3,x4,x5,rfl⟩:=len6 hxl
        have e0:=hev 0 (by omega)
        have e3:=hev 3 (by omega)
        have e5:=hev 5 (by omega)
        simp only [List.getD_cons_succ,List.getD_cons_zero] at e0 e3 e5
        rw [show (48+0)=48 from rfl,g0] at e0
        rw [show (48+3)=51 from rfl,g3] at e3
        rw [show (48+5)=53 from rfl,g5] at e5
        subst e0 e3 e5
        clear hev hxl hF hG g0 g3 g5
        simp only [List.take_succ_cons,List.take_zero,List.drop_succ_cons,List.drop_zero,List.cons_append,List.nil_append]
        have HC2:=hideR (dSection w0 w6 p rq ov6 oq v6 uq b6 _ bq ((lisB expB m.exports)) 7 n6 wz (HD6.out.ps.on hq.below) HD6.out.st hq sq HD6.out.ps.lt hq.below (fun b hb=>(HD6.out.ps.own.lt b hb).2) (by omega) (HLL.out.2.2.2.2.2.2.1))
        have HBW:=hideR hq.below
        clear hq sq HC hB
        go_wp2_with fail
        refine HC2.out.mono ?_
        rintro e w7 ⟨ov7,v7,b7,rfl,hh,ss,kk⟩
        have HD7:Hid (DSt w0 p bM #[.slice o0 n0 k0,.slice o1 n1 k1,.slice o2 n2 k2,.slice o3 n3 k3,.slice o4 n4 k4,.slice o5 n5 k5,.slice o6 n6 k6,.slice o7 n7 k7,.slice o8 n8 k8,.slice o9 n9 k9] w v (id++fstB (sb m) 7) ov7 v7 b7 w7):=hideR (HD6.out.next HBW.out hh (by rw [HB7.out,<- List.append_assoc];exact ss) kk)
        clear hh ss kk HC2 HBW HD6
        rcases HS8.out with hs0|⟨s,hs1⟩
        ·have hn7:n7=0:=by rw [<- HN7.out,hs0];rfl
         have hB8:fstB (sb m) 8=fstB (sb m) 7:=by rw [HB8.out,hn7];unfold secB;rw [if_pos rfl,List.append_nil]
         have HD8:Hid (DSt w0 p bM #[.slice o0 n0 k0,.slice o1 n1 k1,.slice o2 n2 k2,.slice o3 n3 k3,.slice o4 n4 k4,.slice o5 n5 k5,.slice o6 n6 k6,.slice o7 n7 k7,.slice o8 n8 k8,.slice o9 n9 k9] w v (id++fstB (sb m) 8) ov7 v7 b7 w7):=hideR (by rw [hB8];exact HD7.out)
         have hlt:n7<1:=by omega
         clear hs0 hn7 hB8 HD7
         have q0:=HD8.out.bx.cell 0 _ rfl
         have q1:=HD8.out.bx.cell 1 _ rfl
         have q2:=HD8.out.bx.cell 2 _ rfl
         have q3:=HD8.out.bx.cell 3 _ rfl
         have q4:=HD8.out.bx.cell 4 _ rfl
         have q5:=HD8.out.bx.cell 5 _ rfl
         have q6:=HD8.out.bx.cell 6 _ rfl
         have q7:=HD8.out.bx.cell 7 _ rfl
         have q8:=HD8.out.bx.cell 8 _ rfl
         have q9:=HD8.out.bx.cell 9 _ rfl
         go_wp2_with fail
         clear q0 q1 q2 q3 q4 q5 q6 q7 q8 q9
         have HC:Hid (∀wz,Below w7.heap.size w7 wz->Calls Tryz.prog 70 #[.agg #[.slice o0 n0 k0,.slice o1 n1 k1,.slice o2 n2 k2,.slice o3 n3 k3,.slice o4 n4 k4,.slice o5 n5 k5,.slice o6 n6 k6,.slice o7 n7 k7,.slice o8 n8 k8,.slice o9 n9 k9]] wz (PMade wz (lisB elmB m.elems))):=hideR fun wz hb=>dElm d _ _ _ _ _ _ _ _ _ _ m wz (HM.out.on (HD8.out.ps.on hb).below) (HW.out.elems)
         refine Reg.wp_region_two 6 (fun i=>66+i) (GSec p bM 8 (.slice o8 n8 k8) n8 (.agg #[.slice o0 n0 k0,.slice o1 n1 k1,.slice o2 n2 k2,.slice o3 n3 k3,.slice o4 n4 k4,.slice o5 n5 k5,.slice o6 n6 k6,.slice o7 n7 k7,.slice o8 n8 k8,.slice o9 n9 k9]) w7 (lisB elmB m.elems)) (by kernel_rfl) (by kernel_rfl) (fun i j h1 h2 h=>by have h':66+i=66+j:=h;omega) (Reg.dst_ok (size:=87) (by kernel_rfl)) (fun i v w w' hi h hb=>GSec_on i v w w' hi h hb) ?hstep ?htail
         case hstep =>
          intro i o a wz hi ho hF hB hd
          have f0:a.tmps[0]?.getD undef=.pointer (some ⟨p,0,none⟩):=Reg.ev_get (hF.eval 0 (fun i hi=>by show 66+i≠0;omega))
          have f3:a.tmps[3]?.getD undef=.pointer (some ⟨bM,0,none⟩):=Reg.ev_get (hF.eval 3 (fun i hi=>by show 66+i≠3;omega))
          have hbx:Bx wz bM 32 #[.slice o0 n0 k0,.slice o1 n1 k1,.slice o2 n2 k2,.slice o3 n3 k3,.slice o4 n4 k4,.slice o5 n5 k5,.slice o6 n6 k6,.slice o7 n7 k7,.slice o8 n8 k8,.slice o9 n9 k9]:=by unfold Bx;rw [hB.block _ HD8.out.bx.lt];exact HD8.out.bx
          have q0:=hbx.cell 0 _ rfl
          have q1:=hbx.cell 1 _ rfl
          have q2:=hbx.cell 2 _ rfl
          have q3:=hbx.cell 3 _ rfl
          have q4:=hbx.cell 4 _ rfl
          have q5:=hbx.cell 5 _ rfl
          have q6:=hbx.cell 6 _ rfl
          have q7:=hbx.cell 7 _ rfl
          have q8:=hbx.cell 8 _ rfl
          have q9:=hbx.cell 9 _ rfl
          have hcase:i=0\/i=1\/i=2\/i=3\/i=4\/i=5:=by omega
          clear hi hbx
          rcases hcase with rfl|rfl|rfl|rfl|rfl|rfl
          all_goals (simp only [List.getElem?_toArray,List.getElem?_cons_succ,List.getElem?_cons_zero,Option.some.injEq] at ho;subst ho)
          ·refine Reg.step_k fun K hK=>?_
           go_simp
           exact hK _ _ ⟨_,rfl,Below.refl _ _,rfl⟩
          ·refine Reg.step_k fun K hK=>?_
           go_simp
           exact hK _ _ ⟨_,rfl,Below.refl _ _,rfl⟩
          ·have x0:a.tmps[67]?.getD undef=.pointer (some ⟨bM,8,none⟩):=Reg.ev_get (hd 1 (by decide))
           refine Reg.step_k fun K hK=>?_
           go_simp
           exact hK _ _ ⟨_,rfl,Below.refl _ _,rfl⟩
          ·have x0:a.tmps[68]?.getD undef=.slice o8 n8 k8:=Reg.ev_get (hd 2 (by decide))
           refine Reg.step_k fun K hK=>?_
           go_simp
           exact hK _ _ ⟨_,rfl,Below.refl _ _,rfl⟩
          ·refine Reg.step_k fun K hK=>?_
           go_simp
           exact hK _ _ ⟨_,rfl,Below.refl _ _,rfl⟩
          ·have x0:a.tmps[70]?.getD undef=.agg #[.slice o0 n0 k0,.slice o1 n1 k1,.slice o2 n2 k2,.slice o3 n3 k3,.slice o4 n4 k4,.slice o5 n5 k5,.slice o6 n6 k6,.slice o7 n7 k7,.slice o8 n8 k8,.slice o9 n9 k9]:=Reg.ev_get (hd 4 (by decide))
           refine Reg.step_k fun K hK=>?_
           have HKK:=hideR hK
           have HCW:=hideR (HC.out wz hB)
           have HBB:=hideR hB
           clear hK hd hF hB q0 q1 q2 q3 q4 q5 q6 q7 q8 q9
           go_simp
           refine HCW.out.mono ?_
           rintro e wy ⟨r,oq,u,bq,rfl,hr,hs⟩
           exact HKK.out _ _ ⟨_,rfl,hr.below,⟨r,oq,u,bq,rfl,hr.mono HBB.out,hs⟩⟩
         case htail =>
          intro a wz hF hB hG
          have g0:a.eval (.tmp 66)=.pointer (some ⟨p,0,none⟩):=hG 0 (by omega)
          have g3:a.eval (.tmp 69)=.int .i64 (n8:Nat):=hG 3 (by omega)
          obtain ⟨rq,oq,uq,bq,g5,hq,sq⟩:=(show ∃r oq u bq,a.eval (.tmp 71)=.pointer (some ⟨r,0,none⟩)/\PS w7 r oq u bq wz/\St (lisB elmB m.elems) oq bq from hG 5 (by omega))
          obtain ⟨xl,hxl,rfl,hev⟩:=hF.lit (by simp)
          obtain ⟨x0,x1,x2,x3,x4,x5,rfl⟩:=len6 hxl
          have e0:=hev 0 (by omega)
          have e3:=hev 3 (by omega)
          have e5:=hev 5 (by omega)
          simp only [List.getD_cons_succ,List.getD_cons_zero] at e0 e3 e5
          rw [show (66+0)=66 from rfl,g0] at e0
          rw [show (66+3)=69 from rfl,g3] at e3
          rw [show (66+5)=71 from rfl,g5] at e5
          subst e0 e3 e5
          clear hev hxl hF hG g0 g3 g5
          simp only [List.take_succ_cons,List.take_zero,List.drop_succ_cons,List.drop_zero,List.cons_append,List.nil_append]
          have HC2:=hideR (dSection w0 w7 p rq ov7 oq v7 uq b7 _ bq ((lisB elmB m.elems)) 9 n8 wz (HD8.out.ps.on hq.below) HD8.out.st hq sq HD8.out.ps.lt hq.below (fun b hb=>(HD8.out.ps.own.lt b hb).2) (by omega) (HLL.out.2.2.2.2.2.2.2.1))
          have HBW:=hideR hq.below
          clear hq sq HC hB
          go_wp2_with fail
          refine HC2.out.mono ?_
          rintro e w9 ⟨ov9,v9,b9,rfl,hh,ss,kk⟩
          have HD9:Hid (DSt w0 p bM #[.slice o0 n0 k0,.slice o1 n1 k1,.slice o2 n2 k2,.slice o3 n3 k3,.slice o4 n4 k4,.slice o5 n5 k5,.slice o6 n6 k6,.slice o7 n7 k7,.slice o8 n8 k8,.slice o9 n9 k9] w v (id++fstB (sb m) 9) ov9 v9 b9 w9):=hideR (HD8.out.next HBW.out hh (by rw [HB9.out,<- List.append_assoc];exact ss) kk)
          clear hh ss kk HC2 HBW HD8
          go_wp2_with fail
          have HC:Hid (∀wz,Below w9.heap.size w9 wz->Calls Tryz.prog 71 #[.agg #[.slice o0 n0 k0,.slice o1 n1 k1,.slice o2 n2 k2,.slice o3 n3 k3,.slice o4 n4 k4,.slice o5 n5 k5,.slice o6 n6 k6,.slice o7 n7 k7,.slice o8 n8 k8,.slice o9 n9 k9]] wz (PMade wz (lisB (fun x=>sizB (codB x)) m.funcs))):=hideR fun wz hb=>dCods d _ _ _ _ _ _ _ _ _ _ m wz (HM.out.on (HD9.out.ps.on hb).below) (fun x hx=>⟨(HW.out.funcs x hx).2.1,(HW.out.funcs x hx).2.2,HW.out.typs x hx⟩)
          refine Reg.wp_region_two 6 (fun i=>73+i) (GSec p bM 2 (.slice o2 n2 k2) n2 (.agg #[.slice o0 n0 k0,.slice o1 n1 k1,.slice o2 n2 k2,.slice o3 n3 k3,.slice o4 n4 k4,.slice o5 n5 k5,.slice o6 n6 k6,.slice o7 n7 k7,.slice o8 n8 k8,.slice o9 n9 k9]) w9 (lisB (fun x=>sizB (codB x)) m.funcs)) (by kernel_rfl) (by kernel_rfl) (fun i j h1 h2 h=>by have h':73+i=73+j:=h;omega) (Reg.dst_ok (size:=87) (by kernel_rfl)) (fun i v w w' hi h hb=>GSec_on i v w w' hi h hb) ?hstep ?htail
          case hstep =>
           intro i o a wz hi ho hF hB hd
           have f0:a.tmps[0]?.getD undef=.pointer (some ⟨p,0,none⟩):=Reg.ev_get (hF.eval 0 (fun i hi=>by show 73+i≠0;omega))
           have f3:a.tmps[3]?.getD undef=.pointer (some ⟨bM,0,none⟩):=Reg.ev_get (hF.eval 3 (fun i hi=>by show 73+i≠3;omega))
           have hbx:Bx wz bM 32 #[.slice o0 n0 k0,.slice o1 n1 k1,.slice o2 n2 k2,.slice o3 n3 k3,.slice o4 n4 k4,.slice o5 n5 k5,.slice o6 n6 k6,.slice o7 n7 k7,.slice o8 n8 k8,.slice o9 n9 k9]:=by unfold Bx;rw [hB.block _ HD9.out.bx.lt];exact HD9.out.bx
           have q0:=hbx.cell 0 _ rfl
           have q1:=hbx.cell 1 _ rfl
           have q2:=hbx.cell 2 _ rfl
           have q3:=hbx.cell 3 _ rfl
           have q4:=hbx.cell 4 _ rfl
           have q5:=hbx.cell 5 _ rfl
           have q6:=hbx.cell 6 _ rfl
           have q7:=hbx.cell 7 _ rfl
           have q8:=hbx.cell 8 _ rfl
           have q9:=hbx.cell 9 _ rfl
           have hcase:i=0\/i=1\/i=2\/i=3\/i=4\/i=5:=by omega
           clear hi hbx
           rcases hcase with rfl|rfl|rfl|rfl|rfl|rfl
           all_goals (simp only [List.getElem?_toArray,List.getElem?_cons_succ,List.getElem?_cons_zero,Option.some.injEq] at ho;subst ho)
           ·refine Reg.step_k fun K hK=>?_
            go_simp
            exact hK _ _ ⟨_,rfl,Below.refl _ _,rfl⟩
           ·refine Reg.step_k fun K hK=>?_
            go_simp
            exact hK _ _ ⟨_,rfl,Below.refl _ _,rfl⟩
           ·have x0:a.tmps[74]?.getD undef=.pointer (some ⟨bM,2,none⟩):=Reg.ev_get (hd 1 (by decide))
            refine Reg.step_k fun K hK=>?_
            go_simp
            exact hK _ _ ⟨_,rfl,Below.refl _ _,rfl⟩
           ·have x0:a.tmps[75]?.getD undef=.slice o2 n2 k2:=Reg.ev_get (hd 2 (by decide))
            refine Reg.step_k fun K hK=>?_
            go_simp
            exact hK _ _ ⟨_,rfl,Below.refl _ _,rfl⟩
           ·refine Reg.step_k fun K hK=>?_
            go_simp
            exact hK _ _ ⟨_,rfl,Below.refl _ _,rfl⟩
           ·have x0:a.tmps[77]?.getD undef=.agg #[.slice o0 n0 k0,.slice o1 n1 k1,.slice o2 n2 k2,.slice o3 n3 k3,.slice o4 n4 k4,.slice o5 n5 k5,.slice o6 n6 k6,.slice o7 n7 k7,.slice o8 n8 k8,.slice o9 n9 k9]:=Reg.ev_get (hd 4 (by decide))
            refine Reg.step_k fun K hK=>?_
            have HKK:=hideR hK
            have HCW:=hideR (HC.out wz hB)
            have HBB:=hideR hB
            clear hK hd hF hB q0 q1 q2 q3 q4 q5 q6 q7 q8 q9
            go_simp
            refine HCW.out.mono ?_
            rintro e wy ⟨r,oq,u,bq,rfl,hr,hs⟩
            exact HKK.out _ _ ⟨_,rfl,hr.below,⟨r,oq,u,bq,rfl,hr.mono HBB.out,hs⟩⟩
          case htail =>
           intro a wz hF hB hG
           have g0:a.eval (.tmp 73)=.pointer (some ⟨p,0,none⟩):=hG 0 (by omega)
           have g3:a.eval (.tmp 76)=.int .i64 (n2:Nat):=hG 3 (by omega)
           obtain ⟨rq,oq,uq,bq,g5,hq,sq⟩:=(show ∃r oq u bq,a.eval (.tmp 78)=.pointer (some ⟨r,0,none⟩)/\PS w9 r oq u bq wz/\St (lisB (fun x=>sizB (codB x)) m.funcs) oq bq from hG 5 (by omega))
           obtain ⟨xl,hxl,rfl,hev⟩:=hF.lit (by simp)
           obtain ⟨x0,x1,x2,x3,x4,x5,rfl⟩:=len6 hxl
           have e0:=hev 0 (by omega)
           have e3:=hev 3 (by omega)
           have e5:=hev 5 (by omega)
           simp only [List.getD_cons_succ,List.getD_cons_zero] at e0 e3 e5
           rw [show (73+0)=73 from rfl,g0] at e0
           rw [show (73+3)=76 from rfl,g3] at e3
           rw [show (73+5)=78 from rfl,g5] at e5
           subst e0 e3 e5
           clear hev hxl hF hG g0 g3 g5
           simp only [List.take_succ_cons,List.take_zero,List.drop_succ_cons,List.drop_zero,List.cons_append,List.nil_append]
           have HC2:=hideR (dSection w0 w9 p rq ov9 oq v9 uq b9 _ bq ((lisB (fun x=>sizB (codB x)) m.funcs)) 10 n2 wz (HD9.out.ps.on hq.below) HD9.out.st hq sq HD9.out.ps.lt hq.below (fun b hb=>(HD9.out.ps.own.lt b hb).2) (by omega) (HLL.out.2.2.1))
           have HBW:=hideR hq.below
           clear hq sq HC hB
           go_wp2_with fail
           refine HC2.out.mono ?_
           rintro e w10 ⟨ov10,v10,b10,rfl,hh,ss,kk⟩
           have HD10:Hid (DSt w0 p bM #[.slice o0 n0 k0,.slice o1 n1 k1,.slice o2 n2 k2,.slice o3 n3 k3,.slice o4 n4 k4,.slice o5 n5 k5,.slice o6 n6 k6,.slice o7 n7 k7,.slice o8 n8 k8,.slice o9 n9 k9] w v (id++fstB (sb m) 10) ov10 v10 b10 w10):=hideR (HD9.out.next HBW.out hh (by rw [HB10.out,<- List.append_assoc];exact ss) kk)
           clear hh ss kk HC2 HBW HD9
           go_wp2_with fail
           have HC:Hid (∀wz,Below w10.heap.size w10 wz->Calls Tryz.prog 72 #[.agg #[.slice o0 n0 k0,.slice o1 n1 k1,.slice o2 n2 k2,.slice o3 n3 k3,.slice o4 n4 k4,.slice o5 n5 k5,.slice o6 n6 k6,.slice o7 n7 k7,.slice o8 n8 k8,.slice o9 n9 k9]] wz (PMade wz (lisB datB m.datas))):=hideR fun wz hb=>dDat d _ _ _ _ _ _ _ _ _ _ m wz (HM.out.on (HD10.out.ps.on hb).below) (HW.out.datas)
           refine Reg.wp_region_two 6 (fun i=>80+i) (GSec p bM 9 (.slice o9 n9 k9) n9 (.agg #[.slice o0 n0 k0,.slice o1 n1 k1,.slice o2 n2 k2,.slice o3 n3 k3,.slice o4 n4 k4,.slice o5 n5 k5,.slice o6 n6 k6,.slice o7 n7 k7,.slice o8 n8 k8,.slice o9 n9 k9]) w10 (lisB datB m.datas)) (by kernel_rfl) (by kernel_rfl) (fun i j h1 h2 h=>by have h':80+i=80+j:=h;omega) (Reg.dst_ok (size:=87) (by kernel_rfl)) (fun i v w w' hi h hb=>GSec_on i v w w' hi h hb) ?hstep ?htail
           case hstep =>
            intro i o a wz hi ho hF hB hd
            have f0:a.tmps[0]?.getD undef=.pointer (some ⟨p,0,none⟩):=Reg.ev_get (hF.eval 0 (fun i hi=>by show 80+i≠0;omega))
            have f3:a.tmps[3]?.getD undef=.pointer (some ⟨bM,0,none⟩):=Reg.ev_get (hF.eval 3 (fun i hi=>by show 80+i≠3;omega))
            have hbx:Bx wz bM 32 #[.slice o0 n0 k0,.slice o1 n1 k1,.slice o2 n2 k2,.slice o3 n3 k3,.slice o4 n4 k4,.slice o5 n5 k5,.slice o6 n6 k6,.slice o7 n7 k7,.slice o8 n8 k8,.slice o9 n9 k9]:=by unfold Bx;rw [hB.block _ HD10.out.bx.lt];exact HD10.out.bx
            have q0:=hbx.cell 0 _ rfl
            have q1:=hbx.cell 1 _ rfl
            have q2:=hbx.cell 2 _ rfl
            have q3:=hbx.cell 3 _ rfl
            have q4:=hbx.cell 4 _ rfl
            have q5:=hbx.cell 5 _ rfl
            have q6:=hbx.cell 6 _ rfl
            have q7:=hbx.cell 7 _ rfl
            have q8:=hbx.cell 8 _ rfl
            have q9:=hbx.cell 9 _ rfl
            have hcase:i=0\/i=1\/i=2\/i=3\/i=4\/i=5:=by omega
            clear hi hbx
            rcases hcase with rfl|rfl|rfl|rfl|rfl|rfl
            all_goals (simp only [List.getElem?_toArray,List.getElem?_cons_succ,List.getElem?_cons_zero,Option.some.injEq] at ho;subst ho)
            ·refine Reg.step_k fun K hK=>?_
             go_simp
             exact hK _ _ ⟨_,rfl,Below.refl _ _,rfl⟩
            ·refine Reg.step_k fun K hK=>?_
             go_simp
             exact hK _ _ ⟨_,rfl,Below.refl _ _,rfl⟩
            ·have x0:a.tmps[81]?.getD undef=.pointer (some ⟨bM,9,none⟩):=Reg.ev_get (hd 1 (by decide))
             refine Reg.step_k fun K hK=>?_
             go_simp
             exact hK _ _ ⟨_,rfl,Below.refl _ _,rfl⟩
            ·have x0:a.tmps[82]?.getD undef=.slice o9 n9 k9:=Reg.ev_get (hd 2 (by decide))
             refine Reg.step_k fun K hK=>?_
             go_simp
             exact hK _ _ ⟨_,rfl,Below.refl _ _,rfl⟩
            ·refine Reg.step_k fun K hK=>?_
             go_simp
             exact hK _ _ ⟨_,rfl,Below.refl _ _,rfl⟩
            ·have x0:a.tmps[84]?.getD undef=.agg #[.slice o0 n0 k0,.slice o1 n1 k1,.slice o2 n2 k2,.slice o3 n3 k3,.slice o4 n4 k4,.slice o5 n5 k5,.slice o6 n6 k6,.slice o7 n7 k7,.slice o8 n8 k8,.slice o9 n9 k9]:=Reg.ev_get (hd 4 (by decide))
             refine Reg.step_k fun K hK=>?_
             have HKK:=hideR hK
             have HCW:=hideR (HC.out wz hB)
             have HBB:=hideR hB
             clear hK hd hF hB q0 q1 q2 q3 q4 q5 q6 q7 q8 q9
             go_simp
             refine HCW.out.mono ?_
             rintro e wy ⟨r,oq,u,bq,rfl,hr,hs⟩
             exact HKK.out _ _ ⟨_,rfl,hr.below,⟨r,oq,u,bq,rfl,hr.mono HBB.out,hs⟩⟩
           case htail =>
            intro a wz hF hB hG
            have g0:a.eval (.tmp 80)=.pointer (some ⟨p,0,none⟩):=hG 0 (by omega)
            have g3:a.eval (.tmp 83)=.int .i64 (n9:Nat):=hG 3 (by omega)
            obtain ⟨rq,oq,uq,bq,g5,hq,sq⟩:=(show ∃r oq u bq,a.eval (.tmp 85)=.pointer (some ⟨r,0,none⟩)/\PS w10 r oq u bq wz/\St (lisB datB m.datas) oq bq from hG 5 (by omega))
            obtain ⟨xl,hxl,rfl,hev⟩:=hF.lit (by simp)
            obtain ⟨x0,x1,x2,x3,x4,x5,rfl⟩:=len6 hxl
            have e0:=hev 0 (by omega)
            have e3:=hev 3 (by omega)
            have e5:=hev 5 (by omega)
            simp only [List.getD_cons_succ,List.getD_cons_zero] at e0 e3 e5
            rw [show (80+0)=80 from rfl,g0] at e0
            rw [show (80+3)=83 from rfl,g3] at e3
            rw [show (80+5)=85 from rfl,g5] at e5
            subst e0 e3 e5
            clear hev hxl hF hG g0 g3 g5
            simp only [List.take_succ_cons,List.take_zero,List.drop_succ_cons,List.drop_zero,List.cons_append,List.nil_append]
            have HC2:=hideR (dSection w0 w10 p rq ov10 oq v10 uq b10 _ bq ((lisB datB m.datas)) 11 n9 wz (HD10.out.ps.on hq.below) HD10.out.st hq sq HD10.out.ps.lt hq.below (fun b hb=>(HD10.out.ps.own.lt b hb).2) (by omega) (HLL.out.2.2.2.2.2.2.2.2))
            have HBW:=hideR hq.below
            clear hq sq HC hB
            go_wp2_with fail
            refine HC2.out.mono ?_
            rintro e w11 ⟨ov11,v11,b11,rfl,hh,ss,kk⟩
            have HD11:Hid (DSt w0 p bM #[.slice o0 n0 k0,.slice o1 n1 k1,.slice o2 n2 k2,.slice o3 n3 k3,.slice o4 n4 k4,.slice o5 n5 k5,.slice o6 n6 k6,.slice o7 n7 k7,.slice o8 n8 k8,.slice o9 n9 k9] w v (id++fstB (sb m) 11) ov11 v11 b11 w11):=hideR (HD10.out.next HBW.out hh (by rw [HB11.out,<- List.append_assoc];exact ss) kk)
            clear hh ss kk HC2 HBW HD10
            go_wp2_with fail
            go_wp2
            go_end0
            exact ⟨_,_,_,rfl,HD11.out.ps,HD11.out.st,HD11.out.kept⟩
        ·have hn7:n7=1:=by rw [<- HN7.out,hs1];rfl
         have hB8:m.start.flatMap Leb.uB=Leb.uB s:=by rw [hs1];simp
         have hsr:=HW.out.start s (by rw [hs1];simp)
         obtain ⟨bR,off1,cap1,hv1,hx1⟩:=Row.some HM.out.start (by rw [hs1];simp)
         have hcs:=hx1 0 s (by rw [hs1];rfl)
         injection hv1 with ho1 e11 e12
         subst ho1
         clear e11 e12 hx1
         have ct:=cell_on HD7.out.ps.below hcs
         simp only [Nat.zero_mul,Nat.add_zero] at ct
         have hlt:0<n7:=by omega
         have hlt2:(0:Int)<(n7:Int):=by omega
         have HN1:=hideR hn7
         rw [hB8] at HB8
         clear hs1 hn7 hB8 hcs
         have q0:=HD7.out.bx.cell 0 _ rfl
         have q1:=HD7.out.bx.cell 1 _ rfl
         have q2:=HD7.out.bx.cell 2 _ rfl
         have q3:=HD7.out.bx.cell 3 _ rfl
         have q4:=HD7.out.bx.cell 4 _ rfl
         have q5:=HD7.out.bx.cell 5 _ rfl
         have q6:=HD7.out.bx.cell 6 _ rfl
         have q7:=HD7.out.bx.cell 7 _ rfl
         have q8:=HD7.out.bx.cell 8 _ rfl
         have q9:=HD7.out.bx.cell 9 _ rfl
         have HC:=hideR (dCounted s w7 hsr.1 (by omega))
         go_wp2_with fail
         refine HC.out.mono ?_
         rintro e wq ⟨q,oq,uq,bq,rfl,hq,sq⟩
         have HC2:=hideR (dSection w0 w7 p q ov7 oq v7 uq b7 _ bq (Leb.uB s) 8 1 wq (HD7.out.ps.on hq.below) HD7.out.st hq sq HD7.out.ps.lt hq.below (fun b hb=>(HD7.out.ps.own.lt b hb).2) (by omega) (by omega))
         have HBW:=hideR hq.below
         clear hq sq HC q0 q1 q2 q3 q4 q5 q6 q7 q8 q9
         go_wp2_with fail
         refine HC2.out.mono ?_
         rintro e w8 ⟨ov8,v8,b8,rfl,hh,ss,kk⟩
         have HD8:Hid (DSt w0 p bM #[.slice o0 n0 k0,.slice o1 n1 k1,.slice o2 n2 k2,.slice o3 n3 k3,.slice o4 n4 k4,.slice o5 n5 k5,.slice o6 n6 k6,.slice (some ⟨bR,off1,none⟩) n7 k7,.slice o8 n8 k8,.slice o9 n9 k9] w v (id++fstB (sb m) 8) ov8 v8 b8 w8):=hideR (HD7.out.next HBW.out hh (by rw [HB8.out,HN1.out,<- List.append_assoc];exact ss) kk)
         clear hh ss kk HC2 HBW HD7
         clear ct
         go_wp2_with fail
         have HC:Hid (∀wz,Below w8.heap.size w8 wz->Calls Tryz.prog 70 #[.agg #[.slice o0 n0 k0,.slice o1 n1 k1,.slice o2 n2 k2,.slice o3 n3 k3,.slice o4 n4 k4,.slice o5 n5 k5,.slice o6 n6 k6,.slice (some ⟨bR,off1,none⟩) n7 k7,.slice o8 n8 k8,.slice o9 n9 k9]] wz (PMade wz (lisB elmB m.elems))):=hideR fun wz hb=>dElm d _ _ _ _ _ _ _ _ _ _ m wz (HM.out.on (HD8.out.ps.on hb).below) (HW.out.elems)
         refine Reg.wp_region_two 6 (fun i=>66+i) (GSec p bM 8 (.slice o8 n8 k8) n8 (.agg #[.slice o0 n0 k0,.slice o1 n1 k1,.slice o2 n2 k2,.slice o3 n3 k3,.slice o4 n4 k4,.slice o5 n5 k5,.slice o6 n6 k6,.slice (some ⟨bR,off1,none⟩) n7 k7,.slice o8 n8 k8,.slice o9 n9 k9]) w8 (lisB elmB m.elems)) (by kernel_rfl) (by kernel_rfl) (fun i j h1 h2 h=>by have h':66+i=66+j:=h;omega) (Reg.dst_ok (size:=87) (by kernel_rfl)) (fun i v w w' hi h hb=>GSec_on i v w w' hi h hb) ?hstep ?htail
         case hstep =>
          intro i o a wz hi ho hF hB hd
          have f0:a.tmps[0]?.getD undef=.pointer (some ⟨p,0,none⟩):=Reg.ev_get (hF.eval 0 (fun i hi=>by show 66+i≠0;omega))
          have f3:a.tmps[3]?.getD undef=.pointer (some ⟨bM,0,none⟩):=Reg.ev_get (hF.eval 3 (fun i hi=>by show 66+i≠3;omega))
          have hbx:Bx wz bM 32 #[.slice o0 n0 k0,.slice o1 n1 k1,.slice o2 n2 k2,.slice o3 n3 k3,.slice o4 n4 k4,.slice o5 n5 k5,.slice o6 n6 k6,.slice (some ⟨bR,off1,none⟩) n7 k7,.slice o8 n8 k8,.slice o9 n9 k9]:=by unfold Bx;rw [hB.block _ HD8.out.bx.lt];exact HD8.out.bx
          have q0:=hbx.cell 0 _ rfl
          have q1:=hbx.cell 1 _ rfl
          have q2:=hbx.cell 2 _ rfl
          have q3:=hbx.cell 3 _ rfl
          have q4:=hbx.cell 4 _ rfl
          have q5:=hbx.cell 5 _ rfl
          have q6:=hbx.cell 6 _ rfl
          have q7:=hbx.cell 7 _ rfl
          have q8:=hbx.cell 8 _ rfl
          have q9:=hbx.cell 9 _ rfl
          have hcase:i=0\/i=1\/i=2\/i=3\/i=4\/i=5:=by omega
          clear hi hbx
          rcases hcase with rfl|rfl|rfl|rfl|rfl|rfl
          all_goals (simp only [List.getElem?_toArray,List.getElem?_cons_succ,List.getElem?_cons_zero,Option.some.injEq] at ho;subst ho)
          ·refine Reg.step_k fun K hK=>?_
           go_simp
           exact hK _ _ ⟨_,rfl,Below.refl _ _,rfl⟩
          ·refine Reg.step_k fun K hK=>?_
           go_simp
           exact hK _ _ ⟨_,rfl,Below.refl _ _,rfl⟩
          ·have x0:a.tmps[67]?.getD undef=.pointer (some ⟨bM,8,none⟩):=Reg.ev_get (hd 1 (by decide))
           refine Reg.step_k fun K hK=>?_
           go_simp
           exact hK _ _ ⟨_,rfl,Below.refl _ _,rfl⟩
          ·have x0:a.tmps[68]?.getD undef=.slice o8 n8 k8:=Reg.ev_get (hd 2 (by decide))
           refine Reg.step_k fun K hK=>?_
           go_simp
           exact hK _ _ ⟨_,rfl,Below.refl _ _,rfl⟩
          ·refine Reg.step_k fun K hK=>?_
           go_simp
           exact hK _ _ ⟨_,rfl,Below.refl _ _,rfl⟩
          ·have x0:a.tmps[70]?.getD undef=.agg #[.slice o0 n0 k0,.slice o1 n1 k1,.slice o2 n2 k2,.slice o3 n3 k3,.slice o4 n4 k4,.slice o5 n5 k5,.slice o6 n6 k6,.slice (some ⟨bR,off1,none⟩) n7 k7,.slice o8 n8 k8,.slice o9 n9 k9]:=Reg.ev_get (hd 4 (by decide))
           refine Reg.step_k fun K hK=>?_
           have HKK:=hideR hK
           have HCW:=hideR (HC.out wz hB)
           have HBB:=hideR hB
           clear hK hd hF hB q0 q1 q2 q3 q4 q5 q6 q7 q8 q9
           go_simp
           refine HCW.out.mono ?_
           rintro e wy ⟨r,oq,u,bq,rfl,hr,hs⟩
           exact HKK.out _ _ ⟨_,rfl,hr.below,⟨r,oq,u,bq,rfl,hr.mono HBB.out,hs⟩⟩
         case htail =>
          intro a wz hF hB hG
          have g0:a.eval (.tmp 66)=.pointer (some ⟨p,0,none⟩):=hG 0 (by omega)
          have g3:a.eval (.tmp 69)=.int .i64 (n8:Nat):=hG 3 (by omega)
          obtain ⟨rq,oq,uq,bq,g5,hq,sq⟩:=(show ∃r oq u bq,a.eval (.tmp 71)=.pointer (some ⟨r,0,none⟩)/\PS w8 r oq u bq wz/\St (lisB elmB m.elems) oq bq from hG 5 (by omega))
          obtain ⟨xl,hxl,rfl,hev⟩:=hF.lit (by simp)
          obtain ⟨x0,x1,x2,x3,x4,x5,rfl⟩:=len6 hxl
          have e0:=hev 0 (by omega)
          have e3:=hev 3 (by omega)
          have e5:=hev 5 (by omega)
          simp only [List.getD_cons_succ,List.getD_cons_zero] at e0 e3 e5
          rw [show (66+0)=66 from rfl,g0] at e0
          rw [show (66+3)=69 from rfl,g3] at e3
          rw [show (66+5)=71 from rfl,g5] at e5
          subst e0 e3 e5
          clear hev hxl hF hG g0 g3 g5
          simp only [List.take_succ_cons,List.take_zero,List.drop_succ_cons,List.drop_zero,List.cons_append,List.nil_append]
          have HC2:=hideR (dSection w0 w8 p rq ov8 oq v8 uq b8 _ bq ((lisB elmB m.elems)) 9 n8 wz (HD8.out.ps.on hq.below) HD8.out.st hq sq HD8.out.ps.lt hq.below (fun b hb=>(HD8.out.ps.own.lt b hb).2) (by omega) (HLL.out.2.2.2.2.2.2.2.1))
          have HBW:=hideR hq.below
          clear hq sq HC hB
          go_wp2_with fail
          refine HC2.out.mono ?_
          rintro e w9 ⟨ov9,v9,b9,rfl,hh,ss,kk⟩
          have HD9:Hid (DSt w0 p bM #[.slice o0 n0 k0,.slice o1 n1 k1,.slice o2 n2 k2,.slice o3 n3 k3,.slice o4 n4 k4,.slice o5 n5 k5,.slice o6 n6 k6,.slice (some ⟨bR,off1,none⟩) n7 k7,.slice o8 n8 k8,.slice o9 n9 k9] w v (id++fstB (sb m) 9) ov9 v9 b9 w9):=hideR (HD8.out.next HBW.out hh (by rw [HB9.out,<- List.append_assoc];exact ss) kk)
          clear hh ss kk HC2 HBW HD8
          go_wp2_with fail
          have HC:Hid (∀wz,Below w9.heap.size w9 wz->Calls Tryz.prog 71 #[.agg #[.slice o0 n0 k0,.slice o1 n1 k1,.slice o2 n2 k2,.slice o3 n3 k3,.slice o4 n4 k4,.slice o5 n5 k5,.slice o6 n6 k6,.slice (some ⟨bR,off1,none⟩) n7 k7,.slice o8 n8 k8,.slice o9 n9 k9]] wz (PMade wz (lisB (fun x=>sizB (codB x)) m.funcs))):=hideR fun wz hb=>dCods d _ _ _ _ _ _ _ _ _ _ m wz (HM.out.on (HD9.out.ps.on hb).below) (fun x hx=>⟨(HW.out.funcs x hx).2.1,(HW.out.funcs x hx).2.2,HW.out.typs x hx⟩)
          refine Reg.wp_region_two 6 (fun i=>73+i) (GSec p bM 2 (.slice o2 n2 k2) n2 (.agg #[.slice o0 n0 k0,.slice o1 n1 k1,.slice o2 n2 k2,.slice o3 n3 k3,.slice o4 n4 k4,.slice o5 n5 k5,.slice o6 n6 k6,.slice (some ⟨bR,off1,none⟩) n7 k7,.slice o8 n8 k8,.slice o9 n9 k9]) w9 (lisB (fun x=>sizB (codB x)) m.funcs)) (by kernel_rfl) (by kernel_rfl) (fun i j h1 h2 h=>by have h':73+i=73+j:=h;omega) (Reg.dst_ok (size:=87) (by kernel_rfl)) (fun i v w w' hi h hb=>GSec_on i v w w' hi h hb) ?hstep ?htail
          case hstep =>
           intro i o a wz hi ho hF hB hd
           have f0:a.tmps[0]?.getD undef=.pointer (some ⟨p,0,none⟩):=Reg.ev_get (hF.eval 0 (fun i hi=>by show 73+i≠0;omega))
           have f3:a.tmps[3]?.getD undef=.pointer (some ⟨bM,0,none⟩):=Reg.ev_get (hF.eval 3 (fun i hi=>by show 73+i≠3;omega))
           have hbx:Bx wz bM 32 #[.slice o0 n0 k0,.slice o1 n1 k1,.slice o2 n2 k2,.slice o3 n3 k3,.slice o4 n4 k4,.slice o5 n5 k5,.slice o6 n6 k6,.slice (some ⟨bR,off1,none⟩) n7 k7,.slice o8 n8 k8,.slice o9 n9 k9]:=by unfold Bx;rw [hB.block _ HD9.out.bx.lt];exact HD9.out.bx
           have q0:=hbx.cell 0 _ rfl
           have q1:=hbx.cell 1 _ rfl
           have q2:=hbx.cell 2 _ rfl
           have q3:=hbx.cell 3 _ rfl
           have q4:=hbx.cell 4 _ rfl
           have q5:=hbx.cell 5 _ rfl
           have q6:=hbx.cell 6 _ rfl
           have q7:=hbx.cell 7 _ rfl
           have q8:=hbx.cell 8 _ rfl
           have q9:=hbx.cell 9 _ rfl
           have hcase:i=0\/i=1\/i=2\/i=3\/i=4\/i=5:=by omega
           clear hi hbx
           rcases hcase with rfl|rfl|rfl|rfl|rfl|rfl
           all_goals (simp only [List.getElem?_toArray,List.getElem?_cons_succ,List.getElem?_cons_zero,Option.some.injEq] at ho;subst ho)
           ·refine Reg.step_k fun K hK=>?_
            go_simp
            exact hK _ _ ⟨_,rfl,Below.refl _ _,rfl⟩
           ·refine Reg.step_k fun K hK=>?_
            go_simp
            exact hK _ _ ⟨_,rfl,Below.refl _ _,rfl⟩
           ·have x0:a.tmps[74]?.getD undef=.pointer (some ⟨bM,2,none⟩):=Reg.ev_get (hd 1 (by decide))
            refine Reg.step_k fun K hK=>?_
            go_simp
            exact hK _ _ ⟨_,rfl,Below.refl _ _,rfl⟩
           ·have x0:a.tmps[75]?.getD undef=.slice o2 n2 k2:=Reg.ev_get (hd 2 (by decide))
            refine Reg.step_k fun K hK=>?_
            go_simp
            exact hK _ _ ⟨_,rfl,Below.refl _ _,rfl⟩
           ·refine Reg.step_k fun K hK=>?_
            go_simp
            exact hK _ _ ⟨_,rfl,Below.refl _ _,rfl⟩
           ·have x0:a.tmps[77]?.getD undef=.agg #[.slice o0 n0 k0,.slice o1 n1 k1,.slice o2 n2 k2,.slice o3 n3 k3,.slice o4 n4 k4,.slice o5 n5 k5,.slice o6 n6 k6,.slice (some ⟨bR,off1,none⟩) n7 k7,.slice o8 n8 k8,.slice o9 n9 k9]:=Reg.ev_get (hd 4 (by decide))
            refine Reg.step_k fun K hK=>?_
            have HKK:=hideR hK
            have HCW:=hideR (HC.out wz hB)
            have HBB:=hideR hB
            clear hK hd hF hB q0 q1 q2 q3 q4 q5 q6 q7 q8 q9
            go_simp
            refine HCW.out.mono ?_
            rintro e wy ⟨r,oq,u,bq,rfl,hr,hs⟩
            exact HKK.out _ _ ⟨_,rfl,hr.below,⟨r,oq,u,bq,rfl,hr.mono HBB.out,hs⟩⟩
          case htail =>
           intro a wz hF hB hG
           have g0:a.eval (.tmp 73)=.pointer (some ⟨p,0,none⟩):=hG 0 (by omega)
           have g3:a.eval (.tmp 76)=.int .i64 (n2:Nat):=hG 3 (by omega)
           obtain ⟨rq,oq,uq,bq,g5,hq,sq⟩:=(show ∃r oq u bq,a.eval (.tmp 78)=.pointer (some ⟨r,0,none⟩)/\PS w9 r oq u bq wz/\St (lisB (fun x=>sizB (codB x)) m.funcs) oq bq from hG 5 (by omega))
           obtain ⟨xl,hxl,rfl,hev⟩:=hF.lit (by simp)
           obtain ⟨x0,x1,x2,x3,x4,x5,rfl⟩:=len6 hxl
           have e0:=hev 0 (by omega)
           have e3:=hev 3 (by omega)
           have e5:=hev 5 (by omega)
           simp only [List.getD_cons_succ,List.getD_cons_zero] at e0 e3 e5
           rw [show (73+0)=73 from rfl,g0] at e0
           rw [show (73+3)=76 from rfl,g3] at e3
           rw [show (73+5)=78 from rfl,g5] at e5
           subst e0 e3 e5
           clear hev hxl hF hG g0 g3 g5
           simp only [List.take_succ_cons,List.take_zero,List.drop_succ_cons,List.drop_zero,List.cons_append,List.nil_append]
           have HC2:=hideR (dSection w0 w9 p rq ov9 oq v9 uq b9 _ bq ((lisB (fun x=>sizB (codB x)) m.funcs)) 10 n2 wz (HD9.out.ps.on hq.below) HD9.out.st hq sq HD9.out.ps.lt hq.below (fun b hb=>(HD9.out.ps.own.lt b hb).2) (by omega) (HLL.out.2.2.1))
           have HBW:=hideR hq.below
           clear hq sq HC hB
           go_wp2_with fail
           refine HC2.out.mono ?_
           rintro e w10 ⟨ov10,v10,b10,rfl,hh,ss,kk⟩
           have HD10:Hid (DSt w0 p bM #[.slice o0 n0 k0,.slice o1 n1 k1,.slice o2 n2 k2,.slice o3 n3 k3,.slice o4 n4 k4,.slice o5 n5 k5,.slice o6 n6 k6,.slice (some ⟨bR,off1,none⟩) n7 k7,.slice o8 n8 k8,.slice o9 n9 k9] w v (id++fstB (sb m) 10) ov10 v10 b10 w10):=hideR (HD9.out.next HBW.out hh (by rw [HB10.out,<- List.append_assoc];exact ss) kk)
           clear hh ss kk HC2 HBW HD9
           go_wp2_with fail
           have HC:Hid (∀wz,Below w10.heap.size w10 wz->Calls Tryz.prog 72 #[.agg #[.slice o0 n0 k0,.slice o1 n1 k1,.slice o2 n2 k2,.slice o3 n3 k3,.slice o4 n4 k4,.slice o5 n5 k5,.slice o6 n6 k6,.slice (some ⟨bR,off1,none⟩) n7 k7,.slice o8 n8 k8,.slice o9 n9 k9]] wz (PMade wz (lisB datB m.datas))):=hideR fun wz hb=>dDat d _ _ _ _ _ _ _ _ _ _ m wz (HM.out.on (HD10.out.ps.on hb).below) (HW.out.datas)
           refine Reg.wp_region_two 6 (fun i=>80+i) (GSec p bM 9 (.slice o9 n9 k9) n9 (.agg #[.slice o0 n0 k0,.slice o1 n1 k1,.slice o2 n2 k2,.slice o3 n3 k3,.slice o4 n4 k4,.slice o5 n5 k5,.slice o6 n6 k6,.slice (some ⟨bR,off1,none⟩) n7 k7,.slice o8 n8 k8,.slice o9 n9 k9]) w10 (lisB datB m.datas)) (by kernel_rfl) (by kernel_rfl) (fun i j h1 h2 h=>by have h':80+i=80+j:=h;omega) (Reg.dst_ok (size:=87) (by kernel_rfl)) (fun i v w w' hi h hb=>GSec_on i v w w' hi h hb) ?hstep ?htail
           case hstep =>
            intro i o a wz hi ho hF hB hd
            have f0:a.tmps[0]?.getD undef=.pointer (some ⟨p,0,none⟩):=Reg.ev_get (hF.eval 0 (fun i hi=>by show 80+i≠0;omega))
            have f3:a.tmps[3]?.getD undef=.pointer (some ⟨bM,0,none⟩):=Reg.ev_get (hF.eval 3 (fun i hi=>by show 80+i≠3;omega))
            have hbx:Bx wz bM 32 #[.slice o0 n0 k0,.slice o1 n1 k1,.slice o2 n2 k2,.slice o3 n3 k3,.slice o4 n4 k4,.slice o5 n5 k5,.slice o6 n6 k6,.slice (some ⟨bR,off1,none⟩) n7 k7,.slice o8 n8 k8,.slice o9 n9 k9]:=by unfold Bx;rw [hB.block _ HD10.out.bx.lt];exact HD10.out.bx
            have q0:=hbx.cell 0 _ rfl
            have q1:=hbx.cell 1 _ rfl
            have q2:=hbx.cell 2 _ rfl
            have q3:=hbx.cell 3 _ rfl
            have q4:=hbx.cell 4 _ rfl
            have q5:=hbx.cell 5 _ rfl
            have q6:=hbx.cell 6 _ rfl
            have q7:=hbx.cell 7 _ rfl
            have q8:=hbx.cell 8 _ rfl
            have q9:=hbx.cell 9 _ rfl
            have hcase:i=0\/i=1\/i=2\/i=3\/i=4\/i=5:=by omega
            clear hi hbx
            rcases hcase with rfl|rfl|rfl|rfl|rfl|rfl
            all_goals (simp only [List.getElem?_toArray,List.getElem?_cons_succ,List.getElem?_cons_zero,Option.some.injEq] at ho;subst ho)
            ·refine Reg.step_k fun K hK=>?_
             go_simp
             exact hK _ _ ⟨_,rfl,Below.refl _ _,rfl⟩
            ·refine Reg.step_k fun K hK=>?_
             go_simp
             exact hK _ _ ⟨_,rfl,Below.refl _ _,rfl⟩
            ·have x0:a.tmps[81]?.getD undef=.pointer (some ⟨bM,9,none⟩):=Reg.ev_get (hd 1 (by decide))
             refine Reg.step_k fun K hK=>?_
             go_simp
             exact hK _ _ ⟨_,rfl,Below.refl _ _,rfl⟩
            ·have x0:a.tmps[82]?.getD undef=.slice o9 n9 k9:=Reg.ev_get (hd 2 (by decide))
             refine Reg.step_k fun K hK=>?_
             go_simp
             exact hK _ _ ⟨_,rfl,Below.refl _ _,rfl⟩
            ·refine Reg.step_k fun K hK=>?_
             go_simp
             exact hK _ _ ⟨_,rfl,Below.refl _ _,rfl⟩
            ·have x0:a.tmps[84]?.getD undef=.agg #[.slice o0 n0 k0,.slice o1 n1 k1,.slice o2 n2 k2,.slice o3 n3 k3,.slice o4 n4 k4,.slice o5 n5 k5,.slice o6 n6 k6,.slice (some ⟨bR,off1,none⟩) n7 k7,.slice o8 n8 k8,.slice o9 n9 k9]:=Reg.ev_get (hd 4 (by decide))
             refine Reg.step_k fun K hK=>?_
             have HKK:=hideR hK
             have HCW:=hideR (HC.out wz hB)
             have HBB:=hideR hB
             clear hK hd hF hB q0 q1 q2 q3 q4 q5 q6 q7 q8 q9
             go_simp
             refine HCW.out.mono ?_
             rintro e wy ⟨r,oq,u,bq,rfl,hr,hs⟩
             exact HKK.out _ _ ⟨_,rfl,hr.below,⟨r,oq,u,bq,rfl,hr.mono HBB.out,hs⟩⟩
           case htail =>
            intro a wz hF hB hG
            have g0:a.eval (.tmp 80)=.pointer (some ⟨p,0,none⟩):=hG 0 (by omega)
            have g3:a.eval (.tmp 83)=.int .i64 (n9:Nat):=hG 3 (by omega)
            obtain ⟨rq,oq,uq,bq,g5,hq,sq⟩:=(show ∃r oq u bq,a.eval (.tmp 85)=.pointer (some ⟨r,0,none⟩)/\PS w10 r oq u bq wz/\St (lisB datB m.datas) oq bq from hG 5 (by omega))
            obtain ⟨xl,hxl,rfl,hev⟩:=hF.lit (by simp)
            obtain ⟨x0,x1,x2,x3,x4,x5,rfl⟩:=len6 hxl
            have e0:=hev 0 (by omega)
            have e3:=hev 3 (by omega)
            have e5:=hev 5 (by omega)
            simp only [List.getD_cons_succ,List.getD_cons_zero] at e0 e3 e5
            rw [show (80+0)=80 from rfl,g0] at e0
            rw [show (80+3)=83 from rfl,g3] at e3
            rw [show (80+5)=85 from rfl,g5] at e5
            subst e0 e3 e5
            clear hev hxl hF hG g0 g3 g5
            simp only [List.take_succ_cons,List.take_zero,List.drop_succ_cons,List.drop_zero,List.cons_append,List.nil_append]
            have HC2:=hideR (dSection w0 w10 p rq ov10 oq v10 uq b10 _ bq ((lisB datB m.datas)) 11 n9 wz (HD10.out.ps.on hq.below) HD10.out.st hq sq HD10.out.ps.lt hq.below (fun b hb=>(HD10.out.ps.own.lt b hb).2) (by omega) (HLL.out.2.2.2.2.2.2.2.2))
            have HBW:=hideR hq.below
            clear hq sq HC hB
            go_wp2_with fail
            refine HC2.out.mono ?_
            rintro e w11 ⟨ov11,v11,b11,rfl,hh,ss,kk⟩
            have HD11:Hid (DSt w0 p bM #[.slice o0 n0 k0,.slice o1 n1 k1,.slice o2 n2 k2,.slice o3 n3 k3,.slice o4 n4 k4,.slice o5 n5 k5,.slice o6 n6 k6,.slice (some ⟨bR,off1,none⟩) n7 k7,.slice o8 n8 k8,.slice o9 n9 k9] w v (id++fstB (sb m) 11) ov11 v11 b11 w11):=hideR (HD10.out.next HBW.out hh (by rw [HB11.out,<- List.append_assoc];exact ss) kk)
            clear hh ss kk HC2 HBW HD10
            go_wp2_with fail
            go_wp2
            go_end0
            exact ⟨_,_,_,rfl,HD11.out.ps,HD11.out.st,HD11.out.kept⟩
end Go.Proofs.YtlcpagiljfpbpaaGreatDoor

