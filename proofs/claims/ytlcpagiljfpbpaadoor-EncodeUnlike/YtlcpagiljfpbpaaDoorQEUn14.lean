/- Texts that the claim needs. -/
import Derived.Test.YtlcpagiljfpbpaaDoorQEUn13
import Derived.Deep.RegionLaw
import Derived.Deep.CutRange
namespace Go.Proofs.YtlcpagiljfpbpaaDoor
open Go.RowKit Rep
set_option linter.unusedVariables false
namespace Rep
def T1 {d:Nat} (m:Mod d) (B p1:Nat) (o1:Option Addr) (n1 k1:Nat) (o3:Option Addr) (n3 k3:Nat) (o4:Option Addr) (n4 k4:Nat) (o6:Option Addr) (n6 k6:Nat) (o7:Option Addr) (n7 k7:Nat):Nat->Stab
 | 0=>sMk B 71
 | 1=>sEq (.pointer (some ⟨p1,1,none⟩))
 | 2=>sEq (.slice o1 n1 k1)
 | 3=>sOw B 71 3 m.imports.length (flat (withCells impCs m.imports))
 | 4=>sMk B 73
 | 5=>sEq (.pointer (some ⟨p1,3,none⟩))
 | 6=>sEq (.slice o3 n3 k3)
 | 7=>sOw B 73 3 m.tables.length (flat (withCells limCs m.tables))
 | 8=>sMk B 73
 | 9=>sEq (.pointer (some ⟨p1,4,none⟩))
 | 10=>sEq (.slice o4 n4 k4)
 | 11=>sOw B 73 3 m.mems.length (flat (withCells limCs m.mems))
 | 12=>sMk B 76
 | 13=>sEq (.pointer (some ⟨p1,6,none⟩))
 | 14=>sEq (.slice o6 n6 k6)
 | 15=>sOw B 76 3 m.exports.length (flat (withCells expCs m.exports))
 | 16=>sMk B 3
 | 17=>sEq (.pointer (some ⟨p1,7,none⟩))
 | 18=>sEq (.slice o7 n7 k7)
 | 19=>sInts B m.start
 | 20=>sFive B m
 | 21=>sNew B
 | _=>sEq undef
def T5 (B b p1 j b1 off1 n0 k0 cT y1 z1 y2 z2:Nat) (oT q1 q2:Option Addr) (x:FT):Nat->Stab
 | 0=>sEq (.pointer (some ⟨b,0,none⟩))
 | 1=>sEq (.slice oT j cT)
 | 2=>sMk B 3
 | 3=>sEq (.pointer (some ⟨p1,0,none⟩))
 | 4=>sEq (.slice (some ⟨b1,off1,none⟩) n0 k0)
 | 5=>sEq (.int .i64 j)
 | 6=>sEq (.pointer (some ⟨b1,off1+j*2,none⟩))
 | 7=>sEq (.pointer (some ⟨b1,off1+j*2,none⟩))
 | 8=>sEq (.slice q1 y1 z1)
 | 9=>sInts B x.params
 | 10=>sMk B 3
 | 11=>sEq (.pointer (some ⟨p1,0,none⟩))
 | 12=>sEq (.slice (some ⟨b1,off1,none⟩) n0 k0)
 | 13=>sEq (.int .i64 j)
 | 14=>sEq (.pointer (some ⟨b1,off1+j*2,none⟩))
 | 15=>sEq (.pointer (some ⟨b1,off1+j*2+1,none⟩))
 | 16=>sEq (.slice q2 y2 z2)
 | 17=>sInts B x.results
 | 18=>sAgg2 B FTAt x
 | 19=>sOne B 2 48 FTAt x
 | _=>sEq undef
def T9 {d:Nat} (B b p1 j b1 off1 n2 k2 cT y1 z1 y2 z2:Nat) (oT q1 q2:Option Addr) (x:Fun d):Nat->Stab
 | 0=>sEq (.pointer (some ⟨b,2,none⟩))
 | 1=>sEq (.slice oT j cT)
 | 2=>sEq (.pointer (some ⟨p1,2,none⟩))
 | 3=>sEq (.slice (some ⟨b1,off1,none⟩) n2 k2)
 | 4=>sEq (.int .i64 j)
 | 5=>sEq (.pointer (some ⟨b1,off1+j*3,none⟩))
 | 6=>sEq (.pointer (some ⟨b1,off1+j*3,none⟩))
 | 7=>sEq (.int .i64 x.type)
 | 8=>sMk B 3
 | 9=>sEq (.pointer (some ⟨p1,2,none⟩))
 | 10=>sEq (.slice (some ⟨b1,off1,none⟩) n2 k2)
 | 11=>sEq (.int .i64 j)
 | 12=>sEq (.pointer (some ⟨b1,off1+j*3,none⟩))
 | 13=>sEq (.pointer (some ⟨b1,off1+j*3+1,none⟩))
 | 14=>sEq (.slice q1 y1 z1)
 | 15=>sInts B x.locals
 | 16=>sEq (.pointer (some ⟨p1,2,none⟩))
 | 17=>sEq (.slice (some ⟨b1,off1,none⟩) n2 k2)
 | 18=>sEq (.int .i64 j)
 | 19=>sEq (.pointer (some ⟨b1,off1+j*3,none⟩))
 | 20=>sEq (.pointer (some ⟨b1,off1+j*3+2,none⟩))
 | 21=>sEq (.slice q2 y2 z2)
 | 22=>sAt B d x.body
 | 23=>sAgg3 B (fun R=>FunAt R d) x
 | 24=>sOne B 3 42 (fun R=>FunAt R d) x
 | _=>sEq undef
def sNewG (B:Nat):Stab:=⟨fun v w=>∃g,v=.pointer (some ⟨g,0,none⟩)/\B<=g/\BlkG w g (.int .i64 0) (.bool false) (.int .i64 0) (.int .i64 0) (.int .i64 0) (.int .i64 0) (.slice none 0 0) (.slice none 0 0) (.slice none 0 0),fun v w w' ⟨g,h1,h2,h3⟩ hb=>⟨g,h1,h2,h3.on hb⟩⟩
def T13 {d:Nat} (B p1 j b1 off1 n5 k5 y4 z4 y5 z5 y6 z6:Nat) (q4 q5 q6:Option Addr) (x:Glo d):Nat->Stab
 | 0=>sEq (.pointer (some ⟨p1,5,none⟩))
 | 1=>sEq (.slice (some ⟨b1,off1,none⟩) n5 k5)
 | 2=>sEq (.int .i64 j)
 | 3=>sEq (.pointer (some ⟨b1,off1+j*9,none⟩))
 | 4=>sEq (.agg #[.int .i64 x.type,.bool x.mtb,.int .i64 x.init.op,.int .i64 x.init.a,.int .i64 x.init.b,.int .i64 x.init.n,.slice q4 y4 z4,.slice q5 y5 z5,.slice q6 y6 z6])
 | 5=>sNewG B
 | _=>sEq undef
def T14 {d:Nat} (B q y4 z4 y5 z5 y6 z6:Nat) (q4 q5 q6:Option Addr) (x:Glo d):Nat->Stab
 | 0=>sEq (.pointer (some ⟨q,2,none⟩))
 | 1=>sEq (.agg #[.int .i64 x.init.op,.int .i64 x.init.a,.int .i64 x.init.b,.int .i64 x.init.n,.slice q4 y4 z4,.slice q5 y5 z5,.slice q6 y6 z6])
 | 2=>sOneI x.init
 | 3=>sAt B (d+1) [x.init]
 | 4=>sInsP B x.init
 | 5=>sInsA B x.init
 | 6=>sEq (.pointer (some ⟨q,2,none⟩))
 | _=>sEq undef
def T15 {d:Nat} (B b j cT:Nat) (oT:Option Addr) (x:Glo d):Nat->Stab
 | 0=>sEq (.pointer (some ⟨b,5,none⟩))
 | 1=>sEq (.slice oT j cT)
 | 2=>sAgg9 B (fun R=>GloAt R d) x
 | 3=>sOne B 9 56 (fun R=>GloAt R d) x
 | _=>sEq undef
def T19 {d:Nat} (B b p1 j b1 off1 n8 k8 cT y4 z4 y5 z5 y6 z6 y7 z7:Nat) (oT q4 q5 q6 q7:Option Addr) (x:Elm d):Nat->Stab
 | 0=>sEq (.pointer (some ⟨b,8,none⟩))
 | 1=>sEq (.slice oT j cT)
 | 2=>sEq (.pointer (some ⟨p1,8,none⟩))
 | 3=>sEq (.slice (some ⟨b1,off1,none⟩) n8 k8)
 | 4=>sEq (.int .i64 j)
 | 5=>sEq (.pointer (some ⟨b1,off1+j*8,none⟩))
 | 6=>sEq (.pointer (some ⟨b1,off1+j*8,none⟩))
 | 7=>sEq (.agg #[.int .i64 x.offset.op,.int .i64 x.offset.a,.int .i64 x.offset.b,.int .i64 x.offset.n,.slice q4 y4 z4,.slice q5 y5 z5,.slice q6 y6 z6])
 | 8=>sOneI x.offset
 | 9=>sAt B (d+1) [x.offset]
 | 10=>sInsP B x.offset
 | 11=>sInsA B x.offset
 | 12=>sMk B 3
 | 13=>sEq (.pointer (some ⟨p1,8,none⟩))
 | 14=>sEq (.slice (some ⟨b1,off1,none⟩) n8 k8)
 | 15=>sEq (.int .i64 j)
 | 16=>sEq (.pointer (some ⟨b1,off1+j*8,none⟩))
 | 17=>sEq (.pointer (some ⟨b1,off1+j*8+7,none⟩))
 | 18=>sEq (.slice q7 y7 z7)
 | 19=>sInts B x.funcs
 | 20=>sAgg8 B (fun R=>ElmAt R d) x
 | 21=>sOne B 8 52 (fun R=>ElmAt R d) x
 | _=>sEq undef
def T23 {d:Nat} (B b p1 j b1 off1 n9 k9 cT y4 z4 y5 z5 y6 z6:Nat) (oT q4 q5 q6:Option Addr) (x:Dat d):Nat->Stab
 | 0=>sEq (.pointer (some ⟨b,9,none⟩))
 | 1=>sEq (.slice oT j cT)
 | 2=>sEq (.pointer (some ⟨p1,9,none⟩))
 | 3=>sEq (.slice (some ⟨b1,off1,none⟩) n9 k9)
 | 4=>sEq (.int .i64 j)
 | 5=>sEq (.pointer (some ⟨b1,off1+j*8,none⟩))
 | 6=>sEq (.pointer (some ⟨b1,off1+j*8,none⟩))
 | 7=>sEq (.agg #[.int .i64 x.offset.op,.int .i64 x.offset.a,.int .i64 x.offset.b,.int .i64 x.offset.n,.slice q4 y4 z4,.slice q5 y5 z5,.slice q6 y6 z6])
 | 8=>sOneI x.offset
 | 9=>sAt B (d+1) [x.offset]
 | 10=>sInsP B x.offset
 | 11=>sInsA B x.offset
 | 12=>sEq (.pointer (some ⟨p1,9,none⟩))
 | 13=>sEq (.slice (some ⟨b1,off1,none⟩) n9 k9)
 | 14=>sEq (.int .i64 j)
 | 15=>sEq (.pointer (some ⟨b1,off1+j*8,none⟩))
 | 16=>sEq (.pointer (some ⟨b1,off1+j*8+7,none⟩))
 | 17=>sEq (.string x.bytes)
 | 18=>sAgg8 B (fun R=>DatAt R d) x
 | 19=>sOne B 8 54 (fun R=>DatAt R d) x
 | _=>sEq undef
theorem len1 {x:List Value} (h:x.length=1):∃x0,x = [x0]:=by
 match x,h with
 | [x0],_=>exact ⟨x0,rfl⟩
def T24 (e0 e2 e5 e8 e9 a1 a3 a4 a6 a7:Option Addr) (n0 f0 n1 b1 n2 f2 n3 b3 n4 b4 n5 f5 n6 b6 n7 b7 n8 f8 n9 f9:Nat):Nat->Stab
 | 0=>sEq (.agg #[.slice e0 n0 f0,.slice a1 n1 b1,.slice e2 n2 f2,.slice a3 n3 b3,.slice a4 n4 b4,.slice e5 n5 f5,.slice a6 n6 b6,.slice a7 n7 b7,.slice e8 n8 f8,.slice e9 n9 f9])
 | _=>sEq undef
end Rep
def CopyMod {d:Nat} (m:Mod d) (w:World) (e:Ending) (w':World):Prop:=∃u0 u1 u2 u3 u4 u5 u6 u7 u8 u9,e=.returned (.agg #[u0,u1,u2,u3,u4,u5,u6,u7,u8,u9])/\ModAt w' d u0 u1 u2 u3 u4 u5 u6 u7 u8 u9 m/\Below w.heap.size w w'/\(∀n c,u3=.slice none n c->c=0)/\(∀n c,u4=.slice none n c->c=0)
set_option maxRecDepth 100000 in
set_option maxHeartbeats 16000000 in
theorem refCopy (d:Nat) (v0 v1 v2 v3 v4 v5 v6 v7 v8 v9:Value) (m:Mod d) (w:World) (hM:ModAt w d v0 v1 v2 v3 v4 v5 v6 v7 v8 v9 m) (hs:Small m):Calls Tryd.prog 8 #[.agg #[v0,v1,v2,v3,v4,v5,v6,v7,v8,v9]] w (CopyMod m w):=by
 obtain ⟨o0,k0,rfl⟩:=Row.len hM.types
 obtain ⟨o1,k1,rfl⟩:=Row.len hM.imports
 obtain ⟨o2,k2,rfl⟩:=Row.len hM.funcs
 obtain ⟨o3,k3,rfl⟩:=Row.len hM.tables
 obtain ⟨o4,k4,rfl⟩:=Row.len hM.mems
 obtain ⟨o5,k5,rfl⟩:=Row.len hM.globals
 obtain ⟨o6,k6,rfl⟩:=Row.len hM.exports
 obtain ⟨o7,k7,rfl⟩:=Row.len hM.start
 obtain ⟨o8,k8,rfl⟩:=Row.len hM.elems
 obtain ⟨o9,k9,rfl⟩:=Row.len hM.datas
 have l0:=hs.ltypes
 have l1:=hs.limports
 have l2:=hs.lfuncs
 have l3:=hs.ltables
 have l4:=hs.lmems
 have l5:=hs.lglobals
 have l6:=hs.lexports
 have l7:=hs.lstart
 have l8:=hs.lelems
 have l9:=hs.ldatas
 have HM:=hideR hM
 have HS:=hideR hs
 clear hM hs
 generalize hn0:m.types.length=n0 at *
 generalize hn1:m.imports.length=n1 at *
 generalize hn2:m.funcs.length=n2 at *
 generalize hn3:m.tables.length=n3 at *
 generalize hn4:m.mems.length=n4 at *
 generalize hn5:m.globals.length=n5 at *
 generalize hn6:m.exports.length=n6 at *
 generalize hn7:m.start.length=n7 at *
 generalize hn8:m.elems.length=n8 at *
 generalize hn9:m.datas.length=n9 at *
 go_enter Tryd.func8,Tryd.ntmps8
 go_upto_region 1 with fail
 obtain ⟨u1,hu1⟩:∃u1,u1=(w.alloc (.cells #[.slice o0 n0 k0,.slice o1 n1 k1,.slice o2 n2 k2,.slice o3 n3 k3,.slice o4 n4 k4,.slice o5 n5 k5,.slice o6 n6 k6,.slice o7 n7 k7,.slice o8 n8 k8,.slice o9 n9 k9] 32)).alloc (.cells #[.slice none 0 0,.slice none 0 0,.slice none 0 0,.slice none 0 0,.slice none 0 0,.slice none 0 0,.slice none 0 0,.slice none 0 0,.slice none 0 0,.slice none 0 0] 32):=⟨_,rfl⟩
 have HB1:Hid (BlkM u1 w.heap.size (.slice o0 n0 k0) (.slice o1 n1 k1) (.slice o2 n2 k2) (.slice o3 n3 k3) (.slice o4 n4 k4) (.slice o5 n5 k5) (.slice o6 n6 k6) (.slice o7 n7 k7) (.slice o8 n8 k8) (.slice o9 n9 k9)):=hideR (by rw [hu1];exact (BlkM.new rfl).on (new_on' _ _))
 have HB2:Hid (BlkM u1 (w.heap.size+1) (.slice none 0 0) (.slice none 0 0) (.slice none 0 0) (.slice none 0 0) (.slice none 0 0) (.slice none 0 0) (.slice none 0 0) (.slice none 0 0) (.slice none 0 0) (.slice none 0 0)):=hideR (by rw [hu1];exact BlkM.new (by simp))
 have HU:Hid (Below w.heap.size w u1):=hideR (by rw [hu1];exact below_go' (new_on' _ _) (new_on' _ _))
 have HMU:=hideR (HM.out.on HU.out)
 have hsz:u1.heap.size=w.heap.size+2:=by rw [hu1];simp
 rw [<- hu1]
 clear hu1
 have HP:∀w2,Below u1.heap.size u1 w2->Hid (BlkM w2 w.heap.size (.slice o0 n0 k0) (.slice o1 n1 k1) (.slice o2 n2 k2) (.slice o3 n3 k3) (.slice o4 n4 k4) (.slice o5 n5 k5) (.slice o6 n6 k6) (.slice o7 n7 k7) (.slice o8 n8 k8) (.slice o9 n9 k9)):=fun w2 hb=>hideR (HB1.out.on hb)
 generalize hp1:w.heap.size=p1 at *
 go_cut [3] from 10 to 30 (fun s3 wx=>∃g,s3=.pointer (some ⟨g,0,none⟩)/\∃a1 b1 a3 b3 a4 b4 a6 b6 a7 b7,Hid (Mid1 u1 g m (.slice a1 n1 b1) (.slice a3 n3 b3) (.slice a4 n4 b4) (.slice a6 n6 b6) (.slice a7 n7 b7) 0 wx))
 case first =>
  clear HB2
  refine Reg.wp_region_two 22 (fun i=>if i<21 then 10+i else 3) (fun i=>(T1 m u1.heap.size p1 o1 n1 k1 o3 n3 k3 o4 n4 k4 o6 n6 k6 o7 n7 k7 i).1) (by kernel_rfl) (by kernel_rfl) (fun i j h1 h2 h=>by have h':(if i<21 then 10+i else 3)=(if j<21 then 10+j else 3):=h;split at h'<;>split at h'<;>omega) (Reg.dst_ok (size:=180) (by kernel_rfl)) (fun i v w w' _ h hb=>(T1 m u1.heap.size p1 o1 n1 k1 o3 n3 k3 o4 n4 k4 o6 n6 k6 o7 n7 k7 i).2 v w w' h hb) ?hstep ?htail
  case hstep =>
   intro i o a w hi ho hF hB hd
   have e1:a.tmps[1]?.getD undef=.pointer (some ⟨p1,0,none⟩):=Reg.ev_get (hF.eval 1 (fun i hi=>by show (if i<21 then 10+i else 3)≠1;split<;>omega))
   have hcase:i=0\/i=1\/i=2\/i=3\/i=4\/i=5\/i=6\/i=7\/i=8\/i=9\/i=10\/i=11\/i=12\/i=13\/i=14\/i=15\/i=16\/i=17\/i=18\/i=19\/i=20\/i=21:=by omega
   clear hi
   rcases hcase with rfl|rfl|rfl|rfl|rfl|rfl|rfl|rfl|rfl|rfl|rfl|rfl|rfl|rfl|rfl|rfl|rfl|rfl|rfl|rfl|rfl|rfl
   all_goals (simp only [List.getElem?_toArray,List.getElem?_cons_succ,List.getElem?_cons_zero,Option.some.injEq] at ho;subst ho)
   ·refine Reg.step_k fun K hK=>?_
    go_simp
    exact hK _ _ ⟨_,rfl,new_on' _ _,⟨_,rfl,hB.size,heap_alloc_new _ _⟩⟩
   ·refine Reg.step_k fun K hK=>?_
    go_simp
    exact hK _ _ ⟨_,rfl,Below.refl _ _,rfl⟩
   ·have q0:a.tmps[11]?.getD undef=.pointer (some ⟨p1,1,none⟩):=Reg.ev_get (hd 1 (by decide))
    have c:=(HP w hB).out.cell 1 _ rfl
    refine Reg.step_k fun K hK=>?_
    go_simp
    exact hK _ _ ⟨_,rfl,Below.refl _ _,rfl⟩
   ·have qm:Mk u1.heap.size 71 (a.eval (.tmp 10)) w:=hd 0 (by decide)
    have qx:a.eval (.tmp 12)=.slice o1 n1 k1:=hd 2 (by decide)
    obtain ⟨i1,i2,i3⟩:=with_cells (c:=3) (f:=ImpAt) (cs:=impCs) (fun _=>rfl) (fun _ _ _ h=>imp_get h) ((HMU.out.on hB).imports)
    refine op_app0 _ _ 23 rfl u1.heap.size 71 Tryd.underlying23 impInfo (by decide) rfl qm rfl _ _ _ qx (flat (withCells impCs m.imports)) i1 (by rw [with_len (c:=3) (fun _=>rfl),i2]) i3 (with_one imp_one) (by unfold maxLen;omega) (by omega) fun v' w' ho hb=>⟨v',rfl,hb,?_⟩
    rw [i2] at ho;exact ho
   ·refine Reg.step_k fun K hK=>?_
    go_simp
    exact hK _ _ ⟨_,rfl,new_on' _ _,⟨_,rfl,hB.size,heap_alloc_new _ _⟩⟩
   ·refine Reg.step_k fun K hK=>?_
    go_simp
    exact hK _ _ ⟨_,rfl,Below.refl _ _,rfl⟩
   ·have q0:a.tmps[15]?.getD undef=.pointer (some ⟨p1,3,none⟩):=Reg.ev_get (hd 5 (by decide))
    have c:=(HP w hB).out.cell 3 _ rfl
    refine Reg.step_k fun K hK=>?_
    go_simp
    exact hK _ _ ⟨_,rfl,Below.refl _ _,rfl⟩
   ·have qm:Mk u1.heap.size 73 (a.eval (.tmp 14)) w:=hd 4 (by decide)
    have qx:a.eval (.tmp 16)=.slice o3 n3 k3:=hd 6 (by decide)
    obtain ⟨i1,i2,i3⟩:=with_cells (c:=3) (f:=LimAt) (cs:=limCs) (fun _=>rfl) (fun _ _ _ h=>lim_get h) ((HMU.out.on hB).tables)
    refine op_app0 _ _ 25 rfl u1.heap.size 73 Tryd.underlying25 limInf2 (by decide) rfl qm rfl _ _ _ qx (flat (withCells limCs m.tables)) i1 (by rw [with_len (c:=3) (fun _=>rfl),i2]) i3 (with_one lim_one) (by unfold maxLen;omega) (by omega) fun v' w' ho hb=>⟨v',rfl,hb,?_⟩
    rw [i2] at ho;exact ho
   ·refine Reg.step_k fun K hK=>?_
    go_simp
    exact hK _ _ ⟨_,rfl,new_on' _ _,⟨_,rfl,hB.size,heap_alloc_new _ _⟩⟩
   ·refine Reg.step_k fun K hK=>?_
    go_simp
    exact hK _ _ ⟨_,rfl,Below.refl _ _,rfl⟩
   ·have q0:a.tmps[19]?.getD undef=.pointer (some ⟨p1,4,none⟩):=Reg.ev_get (hd 9 (by decide))
    have c:=(HP w hB).out.cell 4 _ rfl
    refine Reg.step_k fun K hK=>?_
    go_simp
    exact hK _ _ ⟨_,rfl,Below.refl _ _,rfl⟩
   ·have qm:Mk u1.heap.size 73 (a.eval (.tmp 18)) w:=hd 8 (by decide)
    have qx:a.eval (.tmp 20)=.slice o4 n4 k4:=hd 10 (by decide)
    obtain ⟨i1,i2,i3⟩:=with_cells (c:=3) (f:=LimAt) (cs:=limCs) (fun _=>rfl) (fun _ _ _ h=>lim_get h) ((HMU.out.on hB).mems)
    refine op_app0 _ _ 25 rfl u1.heap.size 73 Tryd.underlying25 limInf2 (by decide) rfl qm rfl _ _ _ qx (flat (withCells limCs m.mems)) i1 (by rw [with_len (c:=3) (fun _=>rfl),i2]) i3 (with_one lim_one) (by unfold maxLen;omega) (by omega) fun v' w' ho hb=>⟨v',rfl,hb,?_⟩
    rw [i2] at ho;exact ho
   ·refine Reg.step_k fun K hK=>?_
    go_simp
    exact hK _ _ ⟨_,rfl,new_on' _ _,⟨_,rfl,hB.size,heap_alloc_new _ _⟩⟩
   ·refine Reg.step_k fun K hK=>?_
    go_simp
    exact hK _ _ ⟨_,rfl,Below.refl _ _,rfl⟩
   ·have q0:a.tmps[23]?.getD undef=.pointer (some ⟨p1,6,none⟩):=Reg.ev_get (hd 13 (by decide))
    have c:=(HP w hB).out.cell 6 _ rfl
    refine Reg.step_k fun K hK=>?_
    go_simp
    exact hK _ _ ⟨_,rfl,Below.refl _ _,rfl⟩
   ·have qm:Mk u1.heap.size 76 (a.eval (.tmp 22)) w:=hd 12 (by decide)
    have qx:a.eval (.tmp 24)=.slice o6 n6 k6:=hd 14 (by decide)
    obtain ⟨i1,i2,i3⟩:=with_cells (c:=3) (f:=ExpAt) (cs:=expCs) (fun _=>rfl) (fun _ _ _ h=>exp_get h) ((HMU.out.on hB).exports)
    refine op_app0 _ _ 27 rfl u1.heap.size 76 Tryd.underlying27 expInfo (by decide) rfl qm rfl _ _ _ qx (flat (withCells expCs m.exports)) i1 (by rw [with_len (c:=3) (fun _=>rfl),i2]) i3 (with_one exp_one) (by unfold maxLen;omega) (by omega) fun v' w' ho hb=>⟨v',rfl,hb,?_⟩
    rw [i2] at ho;exact ho
   ·refine Reg.step_k fun K hK=>?_
    go_simp
    exact hK _ _ ⟨_,rfl,new_on' _ _,⟨_,rfl,hB.size,heap_alloc_new _ _⟩⟩
   ·refine Reg.step_k fun K hK=>?_
    go_simp
    exact hK _ _ ⟨_,rfl,Below.refl _ _,rfl⟩
   ·have q0:a.tmps[27]?.getD undef=.pointer (some ⟨p1,7,none⟩):=Reg.ev_get (hd 17 (by decide))
    have c:=(HP w hB).out.cell 7 _ rfl
    refine Reg.step_k fun K hK=>?_
    go_simp
    exact hK _ _ ⟨_,rfl,Below.refl _ _,rfl⟩
   ·have qm:Mk u1.heap.size 3 (a.eval (.tmp 26)) w:=hd 16 (by decide)
    have qx:a.eval (.tmp 28)=.slice o7 n7 k7:=hd 18 (by decide)
    obtain ⟨i1,i2,i3⟩:=ints_get ((HMU.out.on hB).start)
    refine op_app0 _ _ 28 rfl u1.heap.size 3 Tryd.underlying28 intInfo' (by decide) rfl qm rfl _ _ _ qx (ints m.start) i1 (by rw [Nat.mul_one,i2];exact List.length_map ..) i3 (ints_one _) (by unfold maxLen;omega) (by omega) fun v' w' ho hb=>⟨v',rfl,hb,?_⟩
    rw [i2] at ho;exact ho
   ·have w1:w.ownsRow u1.heap.size 71 3 (a.eval (.tmp 13)) m.imports.length (flat (withCells impCs m.imports)):=hd 3 (by decide)
    obtain ⟨a1,b1,s1⟩:=own_slice w1
    rw [s1] at w1
    have t1:=Reg.ev_get s1
    have w3:w.ownsRow u1.heap.size 73 3 (a.eval (.tmp 17)) m.tables.length (flat (withCells limCs m.tables)):=hd 7 (by decide)
    obtain ⟨a3,b3,s3⟩:=own_slice w3
    rw [s3] at w3
    have t3:=Reg.ev_get s3
    have w4:w.ownsRow u1.heap.size 73 3 (a.eval (.tmp 21)) m.mems.length (flat (withCells limCs m.mems)):=hd 11 (by decide)
    obtain ⟨a4,b4,s4⟩:=own_slice w4
    rw [s4] at w4
    have t4:=Reg.ev_get s4
    have w6:w.ownsRow u1.heap.size 76 3 (a.eval (.tmp 25)) m.exports.length (flat (withCells expCs m.exports)):=hd 15 (by decide)
    obtain ⟨a6,b6,s6⟩:=own_slice w6
    rw [s6] at w6
    have t6:=Reg.ev_get s6
    have w7:w.ownsRow u1.heap.size 3 1 (a.eval (.tmp 29)) m.start.length (ints m.start):=hd 19 (by decide)
    obtain ⟨a7,b7,s7⟩:=own_slice w7
    rw [s7] at w7
    have t7:=Reg.ev_get s7
    clear HM HMU HS hn1 hn3 hn4 hn6 hn7
    refine Reg.step_k fun K hK=>?_
    go_simp
    exact hK _ _ ⟨_,rfl,Below.refl _ _,⟨a1,b1,a3,b3,a4,b4,a6,b6,a7,b7,rfl,w1,w3,w4,w6,w7⟩⟩
   ·refine Reg.step_k fun K hK=>?_
    go_simp
    exact hK _ _ ⟨_,rfl,new_on' _ _,⟨_,rfl,hB.size,BlkM.new rfl⟩⟩
  case htail =>
   intro a w2 hF hB hG
   have g20:(sFive u1.heap.size m).1 (a.eval (.tmp 30)) w2:=hG 20 (by omega)
   have g21:(sNew u1.heap.size).1 (a.eval (.tmp 3)) w2:=hG 21 (by omega)
   clear hG
   obtain ⟨a1,b1,a3,b3,a4,b4,a6,b6,a7,b7,h20,w1,w3,w4,w6,w7⟩:=g20
   obtain ⟨g,h21,hg,hK⟩:=g21
   have HE:=hideR (five_end hB hg hK w1 w3 w4 w6 w7 (by omega) (by omega) (by omega) (by omega) (by omega))
   simp only [List.drop_succ_cons,List.drop_zero]
   refine wpList_plain rfl fun K hK2=>?_
   refine store10 (Reg.ev_get h21) (Reg.ev_get h20) hK ?_
   refine hK2 _ _ (wpList_nil ?_)
   obtain ⟨y,xl,hxl,rfl,hy,hev⟩:=hF.lit2 (n:=21) (lo:=10) (s:=3) (by decide) (by simp)
   obtain ⟨x0,x1,x2,x3,x4,x5,x6,x7,x8,x9,x10,x11,x12,x13,x14,x15,x16,x17,x18,x19,x20,rfl⟩:=len21 hxl
   obtain rfl:y=.pointer (some ⟨g,0,none⟩):=hy.symm.trans h21
   clear hev hy h20 h21 hxl hF w1 w3 w4 w6 w7 hK hK2 hB
   simp only [List.take_succ_cons,List.take_zero,List.drop_succ_cons,List.drop_zero,List.cons_append,List.nil_append]
   rw [hn1,hn3,hn4,hn6,hn7] at HE ⊢
   go_wp2_with fail
   go_meet
   exact ⟨g,rfl,_,_,_,_,_,_,_,_,_,_,HE⟩
 obtain ⟨b,rfl,a1,b1,a3,b3,a4,b4,a6,b6,a7,b7,HMID⟩:=hcut
 go_wp2_with fail
 go_loopw [4] (fun i wr=>∃j:Nat,j<=n0/\i=.int .i64 j/\Hid (Mid1 u1 b m (.slice a1 n1 b1) (.slice a3 n3 b3) (.slice a4 n4 b4) (.slice a6 n6 b6) (.slice a7 n7 b7)  j wr)) (fun i _=>n0-(intOf i).toNat)
 case atStart=>exact ⟨0,by omega,rfl,HMID⟩
 case round =>
  obtain ⟨j,hj,rfl,HMI⟩:=hrel
  obtain ⟨t,hBk,hGr,hSt⟩:=HMI.out
  obtain ⟨oT,cT,rfl⟩:=hGr.slice
  have HBK:=hideR hBk
  have HGR:=hideR hGr
  have HST:=hideR hSt
  have kp:=(HP wr hSt.below).out.cell 0 _ rfl
  clear hBk hGr hSt
  by_cases hgo:j<n0
  ·obtain ⟨b1,off1,cap1,hv1,hx1⟩:=Row.some HMU.out.types (by omega)
   injection hv1 with ho1 e11 e12
   subst ho1
   obtain ⟨x,hxk⟩:∃x,m.types[j]?=some x:=⟨_,List.getElem?_eq_getElem (by omega)⟩
   have HX:=hideR ((hx1 j x hxk).on HST.out.below)
   have HXK:=hideR hxk
   clear hx1 hxk e11 e12
   obtain ⟨⟨v1,cx0,ax1⟩,⟨v2,cx1,ax2⟩⟩:=HX.out
   obtain ⟨q1,z1,rfl⟩:=Row.len ax1
   obtain ⟨q2,z2,rfl⟩:=Row.len ax2
   have AX1:=hideR ax1
   have AX2:=hideR ax2
   obtain ⟨hsm1,hsm2⟩:=HS.out.types x (List.mem_of_getElem? HXK.out)
   clear ax1 ax2
   generalize hy1:x.params.length=y1 at *
   generalize hy2:x.results.length=y2 at *
   go_upto_region 5 with fail
   clear HMI HMU HM HB2
   refine Reg.wp_region_two 20 (fun i=>38+i) (fun i=>(T5 wr.heap.size b p1 j b1 off1 n0 k0 cT y1 z1 y2 z2 oT q1 q2 x i).1) (by kernel_rfl) (by kernel_rfl) (fun i j h1 h2 h=>by have h':38+i=38+j:=h;omega) (Reg.dst_ok (size:=180) (by kernel_rfl)) (fun i v w w' _ h hb=>(T5 wr.heap.size b p1 j b1 off1 n0 k0 cT y1 z1 y2 z2 oT q1 q2 x i).2 v w w' h hb) ?hstep ?htail
   case hstep =>
    intro i o a w hi ho hF hB hd
    have kb:=(HBK.out.on hB).cell 0 _ rfl
    have kq:=(HP w (HST.out.below.trans (hB.mono HST.out.below.size))).out.cell 0 _ rfl
    have kx0:=cell_on hB cx0
    have kx1:=cell_on hB cx1
    have e1:a.tmps[1]?.getD undef=.pointer (some ⟨p1,0,none⟩):=Reg.ev_get (hF.eval 1 (fun i hi=>by show 38+i≠1;omega))
    have e3:a.tmps[3]?.getD undef=.pointer (some ⟨b,0,none⟩):=Reg.ev_get (hF.eval 3 (fun i hi=>by show 38+i≠3;omega))
    have e4:a.tmps[4]?.getD undef=.int .i64 j:=Reg.ev_get (hF.eval 4 (fun i hi=>by show 38+i≠4;omega))
    have hcase:i=0\/i=1\/i=2\/i=3\/i=4\/i=5\/i=6\/i=7\/i=8\/i=9\/i=10\/i=11\/i=12\/i=13\/i=14\/i=15\/i=16\/i=17\/i=18\/i=19:=by omega
    clear hi
    rcases hcase with rfl|rfl|rfl|rfl|rfl|rfl|rfl|rfl|rfl|rfl|rfl|rfl|rfl|rfl|rfl|rfl|rfl|rfl|rfl|rfl
    all_goals (simp only [List.getElem?_toArray,List.getElem?_cons_succ,List.getElem?_cons_zero,Option.some.injEq] at ho;subst ho)
    ·refine Reg.step_k fun K hK=>?_
     go_simp
     exact hK _ _ ⟨_,rfl,Below.refl _ _,rfl⟩
    ·have q0:a.tmps[38]?.getD undef=.pointer (some ⟨b,0,none⟩):=Reg.ev_get (hd 0 (by decide))
     refine Reg.step_k fun K hK=>?_
     go_simp
     exact hK _ _ ⟨_,rfl,Below.refl _ _,rfl⟩
    ·refine Reg.step_k fun K hK=>?_
     go_simp
     exact hK _ _ ⟨_,rfl,new_on' _ _,⟨_,rfl,hB.size,heap_alloc_new _ _⟩⟩
    ·refine Reg.step_k fun K hK=>?_
     go_simp
     exact hK _ _ ⟨_,rfl,Below.refl _ _,rfl⟩
    ·have q0:a.tmps[41]?.getD undef=.pointer (some ⟨p1,0,none⟩):=Reg.ev_get (hd 3 (by decide))
     refine Reg.step_k fun K hK=>?_
     go_simp
     exact hK _ _ ⟨_,rfl,Below.refl _ _,rfl⟩
    ·refine Reg.step_k fun K hK=>?_
     go_simp
     exact hK _ _ ⟨_,rfl,Below.refl _ _,rfl⟩
    ·have q0:a.tmps[42]?.getD undef=.slice (some ⟨b1,off1,none⟩) n0 k0:=Reg.ev_get (hd 4 (by decide))
     have q1:a.tmps[43]?.getD undef=.int .i64 j:=Reg.ev_get (hd 5 (by decide))
     refine Reg.step_k fun K hK=>?_
     go_simp
     exact hK _ _ ⟨_,rfl,Below.refl _ _,rfl⟩
    ·have q0:a.tmps[44]?.getD undef=.pointer (some ⟨b1,off1+j*2,none⟩):=Reg.ev_get (hd 6 (by decide))
     refine Reg.step_k fun K hK=>?_
     go_simp
     exact hK _ _ ⟨_,rfl,Below.refl _ _,rfl⟩
    ·have q0:a.tmps[45]?.getD undef=.pointer (some ⟨b1,off1+j*2,none⟩):=Reg.ev_get (hd 7 (by decide))
     refine Reg.step_k fun K hK=>?_
     go_simp
     exact hK _ _ ⟨_,rfl,Below.refl _ _,rfl⟩
    ·have qm:Mk wr.heap.size 3 (a.eval (.tmp 40)) w:=hd 2 (by decide)
     have qx:a.eval (.tmp 46)=.slice q1 y1 z1:=hd 8 (by decide)
     obtain ⟨i1,i2,i3⟩:=ints_get (AX1.out.on hB)
     refine op_app0 _ _ 28 rfl wr.heap.size 3 Tryd.underlying28 intInfo' (by decide) rfl qm rfl _ _ _ qx (ints x.params) i1 (by rw [Nat.mul_one,i2];exact List.length_map ..) i3 (ints_one _) (by unfold maxLen;omega) (by omega) fun v' w' ho hb=>⟨v',rfl,hb,?_⟩
     rw [i2] at ho;exact ho
    ·refine Reg.step_k fun K hK=>?_
     go_simp
     exact hK _ _ ⟨_,rfl,new_on' _ _,⟨_,rfl,hB.size,heap_alloc_new _ _⟩⟩
    ·refine Reg.step_k fun K hK=>?_
     go_simp
     exact hK _ _ ⟨_,rfl,Below.refl _ _,rfl⟩
    ·have q0:a.tmps[49]?.getD undef=.pointer (some ⟨p1,0,none⟩):=Reg.ev_get (hd 11 (by decide))
     refine Reg.step_k fun K hK=>?_
     go_simp
     exact hK _ _ ⟨_,rfl,Below.refl _ _,rfl⟩
    ·refine Reg.step_k fun K hK=>?_
     go_simp
     exact hK _ _ ⟨_,rfl,Below.refl _ _,rfl⟩
    ·have q0:a.tmps[50]?.getD undef=.slice (some ⟨b1,off1,none⟩) n0 k0:=Reg.ev_get (hd 12 (by decide))
     have q1:a.tmps[51]?.getD undef=.int .i64 j:=Reg.ev_get (hd 13 (by decide))
     refine Reg.step_k fun K hK=>?_
     go_simp
     exact hK _ _ ⟨_,rfl,Below.refl _ _,rfl⟩
    ·have q0:a.tmps[52]?.getD undef=.pointer (some ⟨b1,off1+j*2,none⟩):=Reg.ev_get (hd 14 (by decide))
     refine Reg.step_k fun K hK=>?_
     go_simp
     exact hK _ _ ⟨_,rfl,Below.refl _ _,rfl⟩
    ·have q0:a.tmps[53]?.getD undef=.pointer (some ⟨b1,off1+j*2+1,none⟩):=Reg.ev_get (hd 15 (by decide))
     refine Reg.step_k fun K hK=>?_
     go_simp
     exact hK _ _ ⟨_,rfl,Below.refl _ _,rfl⟩
    ·have qm:Mk wr.heap.size 3 (a.eval (.tmp 48)) w:=hd 10 (by decide)
     have qx:a.eval (.tmp 54)=.slice q2 y2 z2:=hd 16 (by decide)
     obtain ⟨i1,i2,i3⟩:=ints_get (AX2.out.on hB)
     refine op_app0 _ _ 28 rfl wr.heap.size 3 Tryd.underlying28 intInfo' (by decide) rfl qm rfl _ _ _ qx (ints x.results) i1 (by rw [Nat.mul_one,i2];exact List.length_map ..) i3 (ints_one _) (by unfold maxLen;omega) (by omega) fun v' w' ho hb=>⟨v',rfl,hb,?_⟩
     rw [i2] at ho;exact ho
    ·have w1:w.ownsRow wr.heap.size 3 1 (a.eval (.tmp 47)) x.params.length (ints x.params):=hd 9 (by decide)
     have w2:w.ownsRow wr.heap.size 3 1 (a.eval (.tmp 55)) x.results.length (ints x.results):=hd 17 (by decide)
     obtain ⟨s1,r1,hs1⟩:=own_slice w1
     obtain ⟨s2,r2,hs2⟩:=own_slice w2
     rw [hs1] at w1
     rw [hs2] at w2
     have HPI:=hideR (piece_ft (ints_ge w1 (by omega)) (ints_ge w2 (by omega)))
     rw [hy1,hy2] at HPI
     clear w1 w2
     have t1:=Reg.ev_get hs1
     have t2:=Reg.ev_get hs2
     refine Reg.step_k fun K hK=>?_
     go_simp
     exact hK _ _ ⟨_,rfl,Below.refl _ _,⟨_,_,rfl,HPI.out⟩⟩
    ·obtain ⟨x0,x1,hv,hp⟩:=(show (sAgg2 wr.heap.size FTAt x).1 (a.eval (.tmp 56)) w from hd 18 (by decide))
     have qv:=Reg.ev_get hv
     have HPI:=hideR hp
     clear hp hv
     refine Reg.step_k fun K hK=>?_
     go_simp
     exact hK _ _ ⟨_,rfl,new_on' _ _,⟨_,[x0,x1],rfl,heap_alloc_new _ _,HPI.out.sub (sub_ge (new_on' _ _))⟩⟩
   case htail =>
    intro a w2 hF hB hG
    have et:a.eval (.tmp 39)=.slice oT j cT:=hG 1 (by omega)
    obtain ⟨g,cs,hgv,hgc,hpc⟩:=(show (sOne wr.heap.size 2 48 FTAt x).1 (a.eval (.tmp 57)) w2 from hG 19 (by omega))
    have e3:a.tmps[3]?.getD undef=.pointer (some ⟨b,0,none⟩):=Reg.ev_get (hF.eval 3 (fun i hi=>by show 38+i≠3;omega))
    obtain ⟨ps,p1h,p2h,p3h,p4h,p5h⟩:=HGR.out.below hB
    have hpc2:=hpc.sub (sub_sel (B:=u1.heap.size) (b:=b) (t:=.slice oT j cT) HST.out.below.size HBK.out.lt (fun k hk=>(HGR.out.lt k hk).2))
    have hS2:=HST.out.keep (sub_below hB) (HST.out.below.trans (hB.mono HST.out.below.size))
    have hB2:=HBK.out.on hB
    simp only [List.drop_succ_cons,List.drop_zero]
    refine tail5 hF rfl e3 et hgv hgc hpc.len hpc.one hB2 p3h p4h (by omega) hS2.below.size fun a' t' w9 hF9 ho9 hg9 hv9=>?_
    have HNX:=hideR (mid1_step hB2 hS2 ps p1h p2h p4h p5h HXK.out hpc2 p3h ho9 hg9 hv9)
    obtain ⟨xl,hxl,rfl,hev⟩:=hF9.lit (by simp)
    obtain ⟨x0,x1,x2,x3,x4,x5,x6,x7,x8,x9,x10,x11,x12,x13,x14,x15,x16,x17,x18,x19,x20,x21,rfl⟩:=len22 hxl
    clear hev hxl hF hG hF9 ho9 hg9 hv9 hpc hpc2 hS2 hB2 p1h p2h p3h p4h p5h et hgv hgc e3 hB
    simp only [List.take_succ_cons,List.take_zero,List.drop_succ_cons,List.drop_zero,List.cons_append,List.nil_append]
    go_wp2
    go_roundw
    case rel=>exact ⟨j+1,by omega,by go_num,HNX⟩
    case measure=>simp [intOf];omega
  ·obtain rfl:n0=j:=by omega
   clear HBK HGR HST
   obtain ⟨c0,HMID2⟩:=mid1_fin (hn0 ▸ HMI.out) (by omega)
   have HMID:=hideR HMID2
   clear HMID2 HMI
   go_wp2_with fail
   go_loopw [5] (fun i wr=>∃j:Nat,j<=n2/\i=.int .i64 j/\Hid (Mid2 u1 b m (.slice a1 n1 b1) (.slice a3 n3 b3) (.slice a4 n4 b4) (.slice a6 n6 b6) (.slice a7 n7 b7) c0 j wr)) (fun i _=>n2-(intOf i).toNat)
   case atStart=>exact ⟨0,by omega,rfl,HMID⟩
   case round =>
    obtain ⟨j,hj,rfl,HMI⟩:=hrel
    obtain ⟨t,hBk,hGr,hSt⟩:=HMI.out
    obtain ⟨oT,cT,rfl⟩:=hGr.slice
    have HBK:=hideR hBk
    have HGR:=hideR hGr
    have HST:=hideR hSt
    have kp:=(HP wr hSt.below).out.cell 2 _ rfl
    clear hBk hGr hSt
    by_cases hgo:j<n2
    ·obtain ⟨b1,off1,cap1,hv1,hx1⟩:=Row.some HMU.out.funcs (by omega)
     injection hv1 with ho1 e11 e12
     subst ho1
     obtain ⟨x,hxk⟩:∃x,m.funcs[j]?=some x:=⟨_,List.getElem?_eq_getElem (by omega)⟩
     have HX:=hideR ((hx1 j x hxk).on HST.out.below)
     have HXK:=hideR hxk
     clear hx1 hxk e11 e12
     obtain ⟨cx0,⟨v1,cx1,ax1⟩,⟨v2,cx2,ax2⟩⟩:=HX.out
     obtain ⟨q1,z1,rfl⟩:=Row.len ax1
     obtain ⟨q2,z2,rfl⟩:=At.len d _ _ ax2
     have AX1:=hideR ax1
     have AX2:=hideR ax2
     have hsm1:=(HS.out.funcs x (List.mem_of_getElem? HXK.out)).1.1
     have hsm2:=(HS.out.funcs x (List.mem_of_getElem? HXK.out)).2
     clear ax1 ax2
     generalize hy1:x.locals.length=y1 at *
     generalize hy2:size d x.body=y2 at *
     go_upto_region 9 with fail
     clear HMI HMU HM HB2
     refine Reg.wp_region_two 25 (fun i=>67+i) (fun i=>(T9 wr.heap.size b p1 j b1 off1 n2 k2 cT y1 z1 y2 z2 oT q1 q2 x i).1) (by kernel_rfl) (by kernel_rfl) (fun i j h1 h2 h=>by have h':67+i=67+j:=h;omega) (Reg.dst_ok (size:=180) (by kernel_rfl)) (fun i v w w' _ h hb=>(T9 wr.heap.size b p1 j b1 off1 n2 k2 cT y1 z1 y2 z2 oT q1 q2 x i).2 v w w' h hb) ?hstep ?htail
     case hstep =>
      intro i o a w hi ho hF hB hd
      have kb:=(HBK.out.on hB).cell 2 _ rfl
      have kq:=(HP w (HST.out.below.trans (hB.mono HST.out.below.size))).out.cell 2 _ rfl
      have kx0:=cell_on hB cx0
      have kx1:=cell_on hB cx1
      have kx2:=cell_on hB cx2
      have e1:a.tmps[1]?.getD undef=.pointer (some ⟨p1,0,none⟩):=Reg.ev_get (hF.eval 1 (fun i hi=>by show 67+i≠1;omega))
      have e3:a.tmps[3]?.getD undef=.pointer (some ⟨b,0,none⟩):=Reg.ev_get (hF.eval 3 (fun i hi=>by show 67+i≠3;omega))
      have e5:a.tmps[5]?.getD undef=.int .i64 j:=Reg.ev_get (hF.eval 5 (fun i hi=>by show 67+i≠5;omega))
      have hcase:i=0\/i=1\/i=2\/i=3\/i=4\/i=5\/i=6\/i=7\/i=8\/i=9\/i=10\/i=11\/i=12\/i=13\/i=14\/i=15\/i=16\/i=17\/i=18\/i=19\/i=20\/i=21\/i=22\/i=23\/i=24:=by omega
      clear hi
      rcases hcase with rfl|rfl|rfl|rfl|rfl|rfl|rfl|rfl|rfl|rfl|rfl|rfl|rfl|rfl|rfl|rfl|rfl|rfl|rfl|rfl|rfl|rfl|rfl|rfl|rfl
      all_goals (simp only [List.getElem?_toArray,List.getElem?_cons_succ,List.getElem?_cons_zero,Option.some.injEq] at ho;subst ho)
      ·refine Reg.step_k fun K hK=>?_
       go_simp
       exact hK _ _ ⟨_,rfl,Below.refl _ _,rfl⟩
      ·have q0:a.tmps[67]?.getD undef=.pointer (some ⟨b,2,none⟩):=Reg.ev_get (hd 0 (by decide))
       refine Reg.step_k fun K hK=>?_
       go_simp
       exact hK _ _ ⟨_,rfl,Below.refl _ _,rfl⟩
      ·refine Reg.step_k fun K hK=>?_
       go_simp
       exact hK _ _ ⟨_,rfl,Below.refl _ _,rfl⟩
      ·have q0:a.tmps[69]?.getD undef=.pointer (some ⟨p1,2,none⟩):=Reg.ev_get (hd 2 (by decide))
       refine Reg.step_k fun K hK=>?_
       go_simp
       exact hK _ _ ⟨_,rfl,Below.refl _ _,rfl⟩
      ·refine Reg.step_k fun K hK=>?_
       go_simp
       exact hK _ _ ⟨_,rfl,Below.refl _ _,rfl⟩
      ·have q0:a.tmps[70]?.getD undef=.slice (some ⟨b1,off1,none⟩) n2 k2:=Reg.ev_get (hd 3 (by decide))
       have q1:a.tmps[71]?.getD undef=.int .i64 j:=Reg.ev_get (hd 4 (by decide))
       refine Reg.step_k fun K hK=>?_
       go_simp
       exact hK _ _ ⟨_,rfl,Below.refl _ _,rfl⟩
      ·have q0:a.tmps[72]?.getD undef=.pointer (some ⟨b1,off1+j*3,none⟩):=Reg.ev_get (hd 5 (by decide))
       refine Reg.step_k fun K hK=>?_
       go_simp
       exact hK _ _ ⟨_,rfl,Below.refl _ _,rfl⟩
      ·have q0:a.tmps[73]?.getD undef=.pointer (some ⟨b1,off1+j*3,none⟩):=Reg.ev_get (hd 6 (by decide))
       refine Reg.step_k fun K hK=>?_
       go_simp
       exact hK _ _ ⟨_,rfl,Below.refl _ _,rfl⟩
      ·refine Reg.step_k fun K hK=>?_
       go_simp
       exact hK _ _ ⟨_,rfl,new_on' _ _,⟨_,rfl,hB.size,heap_alloc_new _ _⟩⟩
      ·refine Reg.step_k fun K hK=>?_
       go_simp
       exact hK _ _ ⟨_,rfl,Below.refl _ _,rfl⟩
      ·have q0:a.tmps[76]?.getD undef=.pointer (some ⟨p1,2,none⟩):=Reg.ev_get (hd 9 (by decide))
       refine Reg.step_k fun K hK=>?_
       go_simp
       exact hK _ _ ⟨_,rfl,Below.refl _ _,rfl⟩
      ·refine Reg.step_k fun K hK=>?_
       go_simp
       exact hK _ _ ⟨_,rfl,Below.refl _ _,rfl⟩
      ·have q0:a.tmps[77]?.getD undef=.slice (some ⟨b1,off1,none⟩) n2 k2:=Reg.ev_get (hd 10 (by decide))
       have q1:a.tmps[78]?.getD undef=.int .i64 j:=Reg.ev_get (hd 11 (by decide))
       refine Reg.step_k fun K hK=>?_
       go_simp
       exact hK _ _ ⟨_,rfl,Below.refl _ _,rfl⟩
      ·have q0:a.tmps[79]?.getD undef=.pointer (some ⟨b1,off1+j*3,none⟩):=Reg.ev_get (hd 12 (by decide))
       refine Reg.step_k fun K hK=>?_
       go_simp
       exact hK _ _ ⟨_,rfl,Below.refl _ _,rfl⟩
      ·have q0:a.tmps[80]?.getD undef=.pointer (some ⟨b1,off1+j*3+1,none⟩):=Reg.ev_get (hd 13 (by decide))
       refine Reg.step_k fun K hK=>?_
       go_simp
       exact hK _ _ ⟨_,rfl,Below.refl _ _,rfl⟩
      ·have qm:Mk wr.heap.size 3 (a.eval (.tmp 75)) w:=hd 8 (by decide)
       have qx:a.eval (.tmp 81)=.slice q1 y1 z1:=hd 14 (by decide)
       obtain ⟨i1,i2,i3⟩:=ints_get (AX1.out.on hB)
       refine op_app0 _ _ 28 rfl wr.heap.size 3 Tryd.underlying28 intInfo' (by decide) rfl qm rfl _ _ _ qx (ints x.locals) i1 (by rw [Nat.mul_one,i2];exact List.length_map ..) i3 (ints_one _) (by unfold maxLen;omega) (by omega) fun v' w' ho hb=>⟨v',rfl,hb,?_⟩
       rw [i2] at ho;exact ho
      ·refine Reg.step_k fun K hK=>?_
       go_simp
       exact hK _ _ ⟨_,rfl,Below.refl _ _,rfl⟩
      ·have q0:a.tmps[83]?.getD undef=.pointer (some ⟨p1,2,none⟩):=Reg.ev_get (hd 16 (by decide))
       refine Reg.step_k fun K hK=>?_
       go_simp
       exact hK _ _ ⟨_,rfl,Below.refl _ _,rfl⟩
      ·refine Reg.step_k fun K hK=>?_
       go_simp
       exact hK _ _ ⟨_,rfl,Below.refl _ _,rfl⟩
      ·have q0:a.tmps[84]?.getD undef=.slice (some ⟨b1,off1,none⟩) n2 k2:=Reg.ev_get (hd 17 (by decide))
       have q1:a.tmps[85]?.getD undef=.int .i64 j:=Reg.ev_get (hd 18 (by decide))
       refine Reg.step_k fun K hK=>?_
       go_simp
       exact hK _ _ ⟨_,rfl,Below.refl _ _,rfl⟩
      ·have q0:a.tmps[86]?.getD undef=.pointer (some ⟨b1,off1+j*3,none⟩):=Reg.ev_get (hd 19 (by decide))
       refine Reg.step_k fun K hK=>?_
       go_simp
       exact hK _ _ ⟨_,rfl,Below.refl _ _,rfl⟩
      ·have q0:a.tmps[87]?.getD undef=.pointer (some ⟨b1,off1+j*3+2,none⟩):=Reg.ev_get (hd 20 (by decide))
       refine Reg.step_k fun K hK=>?_
       go_simp
       exact hK _ _ ⟨_,rfl,Below.refl _ _,rfl⟩
      ·have q0:a.tmps[88]?.getD undef=.slice q2 y2 z2:=Reg.ev_get (hd 21 (by decide))
       have HAV:=hideR (At.on hB d _ _ AX2.out)
       refine Reg.step_k fun K hK=>?_
       have HKK:=hideR hK
       clear hK
       go_simp
       refine (refCopies d _ x.body w HAV.out hsm2).mono ?_
       rintro e w' ⟨v',rfl,hA,hb⟩
       exact HKK.out _ _ ⟨v',rfl,hb,at_ge hA hB.size⟩
      ·have w0:a.tmps[74]?.getD undef=.int .i64 x.type:=Reg.ev_get (hd 7 (by decide))
       have w1:w.ownsRow wr.heap.size 3 1 (a.eval (.tmp 82)) x.locals.length (ints x.locals):=hd 15 (by decide)
       have w2:At (only w (ge wr.heap.size)) d (a.eval (.tmp 89)) x.body:=hd 22 (by decide)
       obtain ⟨s1,r1,hs1⟩:=own_slice w1
       obtain ⟨s2,r2,hs2⟩:=At.len d _ _ w2
       rw [hs1] at w1
       rw [hs2] at w2
       have HPI:=hideR (piece_fun (ints_ge w1 (by omega)) w2)
       rw [hy1,hy2] at HPI
       clear w1 w2
       have t1:=Reg.ev_get hs1
       have t2:=Reg.ev_get hs2
       refine Reg.step_k fun K hK=>?_
       go_simp
       exact hK _ _ ⟨_,rfl,Below.refl _ _,⟨_,_,_,rfl,HPI.out⟩⟩
      ·obtain ⟨x0,x1,x2,hv,hp⟩:=(show (sAgg3 wr.heap.size (fun R=>FunAt R d) x).1 (a.eval (.tmp 90)) w from hd 23 (by decide))
       have qv:=Reg.ev_get hv
       have HPI:=hideR hp
       clear hp hv
       refine Reg.step_k fun K hK=>?_
       go_simp
       exact hK _ _ ⟨_,rfl,new_on' _ _,⟨_,[x0,x1,x2],rfl,heap_alloc_new _ _,HPI.out.sub (sub_ge (new_on' _ _))⟩⟩
     case htail =>
      intro a w2 hF hB hG
      have et:a.eval (.tmp 68)=.slice oT j cT:=hG 1 (by omega)
      obtain ⟨g,cs,hgv,hgc,hpc⟩:=(show (sOne wr.heap.size 3 42 (fun R=>FunAt R d) x).1 (a.eval (.tmp 91)) w2 from hG 24 (by omega))
      have e3:a.tmps[3]?.getD undef=.pointer (some ⟨b,0,none⟩):=Reg.ev_get (hF.eval 3 (fun i hi=>by show 67+i≠3;omega))
      obtain ⟨ps,p1h,p2h,p3h,p4h,p5h⟩:=HGR.out.below hB
      have hpc2:=hpc.sub (sub_sel (B:=u1.heap.size) (b:=b) (t:=.slice oT j cT) HST.out.below.size HBK.out.lt (fun k hk=>(HGR.out.lt k hk).2))
      have hS2:=HST.out.keep (sub_below hB) (HST.out.below.trans (hB.mono HST.out.below.size))
      have hB2:=HBK.out.on hB
      simp only [List.drop_succ_cons,List.drop_zero]
      refine tail9 hF rfl e3 et hgv hgc hpc.len hpc.one hB2 p3h p4h (by omega) hS2.below.size fun a' t' w9 hF9 ho9 hg9 hv9=>?_
      have HNX:=hideR (mid2_step hB2 hS2 ps p1h p2h p4h p5h HXK.out hpc2 p3h ho9 hg9 hv9)
      obtain ⟨xl,hxl,rfl,hev⟩:=hF9.lit (by simp)
      obtain ⟨x0,x1,x2,x3,x4,x5,x6,x7,x8,x9,x10,x11,x12,x13,x14,x15,x16,x17,x18,x19,x20,x21,x22,x23,x24,x25,x26,rfl⟩:=len27 hxl
      clear hev hxl hF hG hF9 ho9 hg9 hv9 hpc hpc2 hS2 hB2 p1h p2h p3h p4h p5h et hgv hgc e3 hB
      simp only [List.take_succ_cons,List.take_zero,List.drop_succ_cons,List.drop_zero,List.cons_append,List.nil_append]
      go_wp2
      go_roundw
      case rel=>exact ⟨j+1,by omega,by go_num,HNX⟩
      case measure=>simp [intOf];omega
    ·obtain rfl:n2=j:=by omega
     clear HBK HGR HST
     obtain ⟨c2,HMID2⟩:=mid2_fin (hn2 ▸ HMI.out) (by omega)
     have HMID:=hideR HMID2
     clear HMID2 HMI
     go_wp2_with fail
     go_loopw [6] (fun i wr=>∃j:Nat,j<=n5/\i=.int .i64 j/\Hid (Mid3 u1 b m (.slice a1 n1 b1) (.slice a3 n3 b3) (.slice a4 n4 b4) (.slice a6 n6 b6) (.slice a7 n7 b7) c0 c2 j wr)) (fun i _=>n5-(intOf i).toNat)
     case atStart=>exact ⟨0,by omega,rfl,HMID⟩
     case round =>
      obtain ⟨j,hj,rfl,HMI⟩:=hrel
      obtain ⟨t,hBk,hGr,hSt⟩:=HMI.out
      obtain ⟨oT,cT,rfl⟩:=hGr.slice
      have HBK:=hideR hBk
      have HGR:=hideR hGr
      have HST:=hideR hSt
      have kp:=(HP wr hSt.below).out.cell 5 _ rfl
      clear hBk hGr hSt
      by_cases hgo:j<n5
      ·obtain ⟨b1,off1,cap1,hv1,hx1⟩:=Row.some HMU.out.globals (by omega)
       injection hv1 with ho1 e11 e12
       subst ho1
       obtain ⟨x,hxk⟩:∃x,m.globals[j]?=some x:=⟨_,List.getElem?_eq_getElem (by omega)⟩
       have HX:=hideR ((hx1 j x hxk).on HST.out.below)
       have HXK:=hideR hxk
       clear hx1 hxk e11 e12
       obtain ⟨cx0,cx1,⟨cx2,cx3,cx4,cx5,⟨v4,cx6,ax4⟩,⟨v5,cx7,ax5⟩,⟨v6,cx8,ax6⟩⟩⟩:=HX.out
       obtain ⟨q4,z4,rfl⟩:=Row.len ax4
       obtain ⟨q5,z5,rfl⟩:=At.len d _ _ ax5
       obtain ⟨q6,z6,rfl⟩:=At.len d _ _ ax6
       have AX4:=hideR ax4
       have AX5:=hideR ax5
       have AX6:=hideR ax6
       have hsmI:=HS.out.globals x (List.mem_of_getElem? HXK.out)
       clear ax4 ax5 ax6
       generalize hy4:x.init.labels.length=y4 at *
       generalize hy5:size d x.init.body=y5 at *
       generalize hy6:size d x.init.els=y6 at *
       go_upto_region 13 with fail
       clear HMI HMU HM HB2
       refine Reg.wp_region_seq 6 (fun i=>if i<5 then 101+i else 7) (fun i=>(T13 wr.heap.size p1 j b1 off1 n5 k5 y4 z4 y5 z5 y6 z6 q4 q5 q6 x i).1) ?hn (fun i j h1 h2 h=>by have h':(if i<5 then 101+i else 7)=(if j<5 then 101+j else 7):=h;split at h'<;>split at h'<;>omega) (Reg.dst_ok (size:=180) (by kernel_rfl)) (fun i v w w' _ h hb=>(T13 wr.heap.size p1 j b1 off1 n5 k5 y4 z4 y5 z5 y6 z6 q4 q5 q6 x i).2 v w w' h hb) ?hstep ?htail
       case hn=>simp
       case hstep =>
        intro i o a w hi ho hF hB hd
        have kq:=(HP w (HST.out.below.trans (hB.mono HST.out.below.size))).out.cell 5 _ rfl
        have kx0:=cell_on hB cx0
        have kx1:=cell_on hB cx1
        have kx2:=cell_on hB cx2
        have kx3:=cell_on hB cx3
        have kx4:=cell_on hB cx4
        have kx5:=cell_on hB cx5
        have kx6:=cell_on hB cx6
        have kx7:=cell_on hB cx7
        have kx8:=cell_on hB cx8
        have e1:a.tmps[1]?.getD undef=.pointer (some ⟨p1,0,none⟩):=Reg.ev_get (hF.eval 1 (fun i hi=>by show (if i<5 then 101+i else 7)≠1;split<;>omega))
        have e6:a.tmps[6]?.getD undef=.int .i64 j:=Reg.ev_get (hF.eval 6 (fun i hi=>by show (if i<5 then 101+i else 7)≠6;split<;>omega))
        have hcase:i=0\/i=1\/i=2\/i=3\/i=4\/i=5:=by omega
        clear hi
        rcases hcase with rfl|rfl|rfl|rfl|rfl|rfl
        all_goals (simp only [List.getElem?_toArray,List.getElem?_cons_succ,List.getElem?_cons_zero,Option.some.injEq] at ho;subst ho)
        ·refine Reg.step_k fun K hK=>?_
         go_simp
         exact hK _ _ ⟨_,rfl,Below.refl _ _,rfl⟩
        ·have q0:a.tmps[101]?.getD undef=.pointer (some ⟨p1,5,none⟩):=Reg.ev_get (hd 0 (by decide))
         refine Reg.step_k fun K hK=>?_
         go_simp
         exact hK _ _ ⟨_,rfl,Below.refl _ _,rfl⟩
        ·refine Reg.step_k fun K hK=>?_
         go_simp
         exact hK _ _ ⟨_,rfl,Below.refl _ _,rfl⟩
        ·have q0:a.tmps[102]?.getD undef=.slice (some ⟨b1,off1,none⟩) n5 k5:=Reg.ev_get (hd 1 (by decide))
         have q1:a.tmps[103]?.getD undef=.int .i64 j:=Reg.ev_get (hd 2 (by decide))
         refine Reg.step_k fun K hK=>?_
         go_simp
         exact hK _ _ ⟨_,rfl,Below.refl _ _,rfl⟩
        ·have q0:a.tmps[104]?.getD undef=.pointer (some ⟨b1,off1+j*9,none⟩):=Reg.ev_get (hd 3 (by decide))
         refine Reg.step_k fun K hK=>?_
         go_simp
         exact hK _ _ ⟨_,rfl,Below.refl _ _,rfl⟩
        ·refine Reg.step_k fun K hK=>?_
         go_simp
         exact hK _ _ ⟨_,rfl,new_on' _ _,⟨_,rfl,hB.size,BlkG.new rfl⟩⟩
       case htail =>
        intro a w2 hF hB hG
        obtain ⟨q,h7,hq,hZ⟩:=(show (sNewG wr.heap.size).1 (a.eval (.tmp 7)) w2 from hG 5 (by omega))
        have h105:a.tmps[105]?.getD undef=.agg #[.int .i64 x.type,.bool x.mtb,.int .i64 x.init.op,.int .i64 x.init.a,.int .i64 x.init.b,.int .i64 x.init.n,.slice q4 y4 z4,.slice q5 y5 z5,.slice q6 y6 z6]:=Reg.ev_get (show a.eval (.tmp 105)=_ from hG 4 (by omega))
        have HQ3:=hideR (hZ.setG (.int .i64 x.type) (.bool x.mtb) (.int .i64 x.init.op) (.int .i64 x.init.a) (.int .i64 x.init.b) (.int .i64 x.init.n) (.slice q4 y4 z4) (.slice q5 y5 z5) (.slice q6 y6 z6))
        have HB3:=hideR (setG_below hB hq (.int .i64 x.type) (.bool x.mtb) (.int .i64 x.init.op) (.int .i64 x.init.a) (.int .i64 x.init.b) (.int .i64 x.init.n) (.slice q4 y4 z4) (.slice q5 y5 z5) (.slice q6 y6 z6))
        simp only [List.drop_succ_cons,List.drop_zero]
        refine wpList_plain rfl fun K hK2=>?_
        refine store9 (Reg.ev_get h7) h105 hZ ?_
        refine hK2 _ _ (wpList_nil ?_)
        clear hK2 hZ h105
        generalize setG w2 q (.int .i64 x.type) (.bool x.mtb) (.int .i64 x.init.op) (.int .i64 x.init.a) (.int .i64 x.init.b) (.int .i64 x.init.n) (.slice q4 y4 z4) (.slice q5 y5 z5) (.slice q6 y6 z6)=w3 at *
        obtain ⟨y,xl,hxl,rfl,hy,hev⟩:=hF.lit2 (n:=5) (lo:=101) (s:=7) (by decide) (by simp)
        obtain ⟨x0,x1,x2,x3,x4,rfl⟩:=len5 hxl
        obtain rfl:y=.pointer (some ⟨q,0,none⟩):=hy.symm.trans h7
        clear hev hy h7 hxl hF hG hB
        simp only [List.take_succ_cons,List.take_zero,List.drop_succ_cons,List.drop_zero,List.cons_append,List.nil_append]
        have hw3:wr.heap.size<=w3.heap.size:=HB3.out.size
        have AY4:=hideR (AX4.out.on HB3.out)
        have AY5:=hideR (At.on HB3.out d _ _ AX5.out)
        have AY6:=hideR (At.on HB3.out d _ _ AX6.out)
        go_upto_region 14 with fail
        refine Reg.wp_region_seq 7 (fun i=>106+i) (fun i=>(T14 w3.heap.size q y4 z4 y5 z5 y6 z6 q4 q5 q6 x i).1) ?hn (fun i j h1 h2 h=>by have h':106+i=106+j:=h;omega) (Reg.dst_ok (size:=180) (by kernel_rfl)) (fun i v w w' _ h hb=>(T14 w3.heap.size q y4 z4 y5 z5 y6 z6 q4 q5 q6 x i).2 v w w' h hb) ?hstep ?htail
        case hn=>simp
        case hstep =>
         intro i o a w hi ho hF hB hd
         have kx2:=(HQ3.out.on hB).cell 2 _ rfl
         have kx3:=(HQ3.out.on hB).cell 3 _ rfl
         have kx4:=(HQ3.out.on hB).cell 4 _ rfl
         have kx5:=(HQ3.out.on hB).cell 5 _ rfl
         have kx6:=(HQ3.out.on hB).cell 6 _ rfl
         have kx7:=(HQ3.out.on hB).cell 7 _ rfl
         have kx8:=(HQ3.out.on hB).cell 8 _ rfl
         have e7:a.tmps[7]?.getD undef=.pointer (some ⟨q,0,none⟩):=Reg.ev_get (hF.eval 7 (fun i hi=>by show 106+i≠7;omega))
         have hcase:i=0\/i=1\/i=2\/i=3\/i=4\/i=5\/i=6:=by omega
         clear hi
         rcases hcase with rfl|rfl|rfl|rfl|rfl|rfl|rfl
         all_goals (simp only [List.getElem?_toArray,List.getElem?_cons_succ,List.getElem?_cons_zero,Option.some.injEq] at ho;subst ho)
         ·refine Reg.step_k fun K hK=>?_
          go_simp
          exact hK _ _ ⟨_,rfl,Below.refl _ _,rfl⟩
         ·have q0:a.tmps[106]?.getD undef=.pointer (some ⟨q,2,none⟩):=Reg.ev_get (hd 0 (by decide))
          refine Reg.step_k fun K hK=>?_
          go_simp
          exact hK _ _ ⟨_,rfl,Below.refl _ _,rfl⟩
         ·have q0:a.tmps[107]?.getD undef=.agg #[.int .i64 x.init.op,.int .i64 x.init.a,.int .i64 x.init.b,.int .i64 x.init.n,.slice q4 y4 z4,.slice q5 y5 z5,.slice q6 y6 z6]:=Reg.ev_get (hd 1 (by decide))
          have HO:=hideR (one_ins (AY4.out.on hB) (At.on hB d _ _ AY5.out) (At.on hB d _ _ AY6.out))
          refine Reg.step_k fun K hK=>?_
          go_simp
          exact hK _ _ ⟨_,rfl,new_on' _ _,⟨_,rfl,HO.out⟩⟩
         ·obtain ⟨g,hv,hAt⟩:=(show (sOneI x.init).1 (a.eval (.tmp 108)) w from hd 2 (by decide))
          rw [hv] at hAt
          have HAV:=hideR hAt
          have q0:=Reg.ev_get hv
          clear hv hAt
          refine Reg.step_k fun K hK=>?_
          have HKK:=hideR hK
          clear hK
          go_simp
          refine (refCopies (d+1) _ [x.init] w HAV.out ⟨by simp,fun y hy=>by rw [List.mem_singleton.1 hy];exact hsmI⟩).mono ?_
          rintro e w' ⟨v',rfl,hA,hb⟩
          exact HKK.out _ _ ⟨v',rfl,hb,at_ge hA hB.size⟩
         ·obtain ⟨g,o,cc,hv,hc⟩:=Row.some (show Row 7 _ (a.eval (.tmp 109)) [x.init] from hd 3 (by decide)) (by simp)
          have HC:=hideR (hc 0 _ rfl)
          have q0:=Reg.ev_get hv
          simp only [List.length_cons,List.length_nil,Nat.zero_add] at q0
          clear hv hc
          refine Reg.step_k fun K hK=>?_
          go_simp
          exact hK _ _ ⟨_,rfl,Below.refl _ _,⟨g,o,rfl,by have:=HC.out;simpa using this⟩⟩
         ·obtain ⟨g,o,hv,hc⟩:=(show (sInsP w3.heap.size x.init).1 (a.eval (.tmp 110)) w from hd 4 (by decide))
          have q0:=Reg.ev_get hv
          obtain ⟨r0,r1,r2,r3,⟨u4,r4,s4⟩,⟨u5,r5,s5⟩,⟨u6,r6,s6⟩⟩:=hc
          obtain ⟨j4,l4,rfl⟩:=Row.len s4
          obtain ⟨j5,l5,rfl⟩:=At.len d _ _ s5
          obtain ⟨j6,l6,rfl⟩:=At.len d _ _ s6
          have HV:=hideR (InsVals.mk s4 s5 s6)
          rw [hy4,hy5,hy6] at HV
          clear hv s4 s5 s6
          have r0:=only_sub _ _ _ _ _ r0
          have r1:=only_sub _ _ _ _ _ r1
          have r2:=only_sub _ _ _ _ _ r2
          have r3:=only_sub _ _ _ _ _ r3
          have r4:=only_sub _ _ _ _ _ r4
          have r5:=only_sub _ _ _ _ _ r5
          have r6:=only_sub _ _ _ _ _ r6
          refine Reg.step_k fun K hK=>?_
          go_simp
          exact hK _ _ ⟨_,rfl,Below.refl _ _,⟨_,_,_,_,_,_,_,_,_,rfl,HV.out⟩⟩
         ·refine Reg.step_k fun K hK=>?_
          go_simp
          exact hK _ _ ⟨_,rfl,Below.refl _ _,rfl⟩
        case htail =>
         intro a w4 hF hB hG
         obtain ⟨o4,m4,c4x,o5,m5,c5x,o6,m6,c6x,hv,hV⟩:=(show (sInsA w3.heap.size x.init).1 (a.eval (.tmp 111)) w4 from hG 5 (by omega))
         have hq6:a.tmps[112]?.getD undef=.pointer (some ⟨q,2,none⟩):=Reg.ev_get (show a.eval (.tmp 112)=_ from hG 6 (by omega))
         have hQ4:=HQ3.out.on hB
         have HQ5:=hideR (hQ4.setI (.int .i64 x.init.op) (.int .i64 x.init.a) (.int .i64 x.init.b) (.int .i64 x.init.n) (.slice o4 m4 c4x) (.slice o5 m5 c5x) (.slice o6 m6 c6x))
         have HB5:Hid (Below wr.heap.size wr (setI w4 q (.int .i64 x.init.op) (.int .i64 x.init.a) (.int .i64 x.init.b) (.int .i64 x.init.n) (.slice o4 m4 c4x) (.slice o5 m5 c5x) (.slice o6 m6 c6x))):=hideR (setI_below (HB3.out.trans (hB.mono hw3)) hq _ _ _ _ _ _ _)
         have hqw:q<w3.heap.size:=HQ3.out.lt
         have hsub:Sub (only w4 (ge w3.heap.size)) (only (setI w4 q (.int .i64 x.init.op) (.int .i64 x.init.a) (.int .i64 x.init.b) (.int .i64 x.init.n) (.slice o4 m4 c4x) (.slice o5 m5 c5x) (.slice o6 m6 c6x)) (ge w3.heap.size)):=sub_only fun k _ hk=>⟨hk,setI_block _ _ _ _ _ _ _ k (by have:=of_decide_eq_true hk;omega)⟩
         have HPI:=hideR (piece_glo (x:=x) (hV.sub hsub))
         simp only [List.drop_succ_cons,List.drop_zero]
         refine wpList_plain rfl fun K hK2=>?_
         refine store7 hq6 (Reg.ev_get hv) hQ4 ?_
         refine hK2 _ _ (wpList_nil ?_)
         clear hK2 hQ4 hsub hV
         generalize setI w4 q (.int .i64 x.init.op) (.int .i64 x.init.a) (.int .i64 x.init.b) (.int .i64 x.init.n) (.slice o4 m4 c4x) (.slice o5 m5 c5x) (.slice o6 m6 c6x)=w5 at *
         obtain ⟨xl,hxl,rfl,hev⟩:=hF.lit (by simp)
         obtain ⟨x0,x1,x2,x3,x4,x5,x6,rfl⟩:=len7 hxl
         clear hev hxl hF hG hv hq6 hB
         simp only [List.take_succ_cons,List.take_zero,List.drop_succ_cons,List.drop_zero,List.cons_append,List.nil_append]
         have HBK5:=hideR (HBK.out.on HB5.out)
         have HGR5:=hideR (HGR.out.below HB5.out)
         have HST5:=hideR (HST.out.keep (sub_below HB5.out) (HST.out.below.trans (HB5.out.mono HST.out.below.size)))
         go_upto_region 15 with fail
         refine Reg.wp_region_seq 4 (fun i=>113+i) (fun i=>(T15 w3.heap.size b j cT oT x i).1) ?hn (fun i j h1 h2 h=>by have h':113+i=113+j:=h;omega) (Reg.dst_ok (size:=180) (by kernel_rfl)) (fun i v w w' _ h hb=>(T15 w3.heap.size b j cT oT x i).2 v w w' h hb) ?hstep ?htail
         case hn=>simp
         case hstep =>
          intro i o a w hi ho hF hB hd
          have kb:=(HBK5.out.on hB).cell 5 _ rfl
          have kx0:=(HQ5.out.on hB).cell 0 _ rfl
          have kx1:=(HQ5.out.on hB).cell 1 _ rfl
          have kx2:=(HQ5.out.on hB).cell 2 _ rfl
          have kx3:=(HQ5.out.on hB).cell 3 _ rfl
          have kx4:=(HQ5.out.on hB).cell 4 _ rfl
          have kx5:=(HQ5.out.on hB).cell 5 _ rfl
          have kx6:=(HQ5.out.on hB).cell 6 _ rfl
          have kx7:=(HQ5.out.on hB).cell 7 _ rfl
          have kx8:=(HQ5.out.on hB).cell 8 _ rfl
          have e3:a.tmps[3]?.getD undef=.pointer (some ⟨b,0,none⟩):=Reg.ev_get (hF.eval 3 (fun i hi=>by show 113+i≠3;omega))
          have e7:a.tmps[7]?.getD undef=.pointer (some ⟨q,0,none⟩):=Reg.ev_get (hF.eval 7 (fun i hi=>by show 113+i≠7;omega))
          have hcase:i=0\/i=1\/i=2\/i=3:=by omega
          clear hi
          rcases hcase with rfl|rfl|rfl|rfl
          all_goals (simp only [List.getElem?_toArray,List.getElem?_cons_succ,List.getElem?_cons_zero,Option.some.injEq] at ho;subst ho)
          ·refine Reg.step_k fun K hK=>?_
           go_simp
           exact hK _ _ ⟨_,rfl,Below.refl _ _,rfl⟩
          ·have q0:a.tmps[113]?.getD undef=.pointer (some ⟨b,5,none⟩):=Reg.ev_get (hd 0 (by decide))
           refine Reg.step_k fun K hK=>?_
           go_simp
           exact hK _ _ ⟨_,rfl,Below.refl _ _,rfl⟩
          ·refine Reg.step_k fun K hK=>?_
           go_simp
           exact hK _ _ ⟨_,rfl,Below.refl _ _,⟨_,_,_,_,_,_,_,_,_,rfl,HPI.out.sub (sub_ge hB)⟩⟩
          ·obtain ⟨x0,x1,x2,x3,x4,x5,x6,x7,x8,hv,hp⟩:=(show (sAgg9 w3.heap.size (fun R=>GloAt R d) x).1 (a.eval (.tmp 115)) w from hd 2 (by decide))
           have qv:=Reg.ev_get hv
           have HPI:=hideR hp
           clear hp hv
           refine Reg.step_k fun K hK=>?_
           go_simp
           exact hK _ _ ⟨_,rfl,new_on' _ _,⟨_,[x0,x1,x2,x3,x4,x5,x6,x7,x8],rfl,heap_alloc_new _ _,HPI.out.sub (sub_ge (new_on' _ _))⟩⟩
         case htail =>
          intro a w2 hF hB hG
          have et:a.eval (.tmp 114)=.slice oT j cT:=hG 1 (by omega)
          obtain ⟨g,cs,hgv,hgc,hpc⟩:=(show (sOne w3.heap.size 9 56 (fun R=>GloAt R d) x).1 (a.eval (.tmp 116)) w2 from hG 3 (by omega))
          have e3:a.tmps[3]?.getD undef=.pointer (some ⟨b,0,none⟩):=Reg.ev_get (hF.eval 3 (fun i hi=>by show 113+i≠3;omega))
          obtain ⟨ps,p1h,p2h,p3h,p4h,p5h⟩:=HGR5.out.below hB
          have hpc2:=hpc.sub (sub_sel (B:=u1.heap.size) (b:=b) (t:=.slice oT j cT) (by have:=HST.out.below.size;omega) (by have:=HBK.out.lt;omega) (fun k hk=>by have:=(HGR.out.lt k hk).2;omega))
          have hS2:=HST5.out.keep (sub_below hB) (HST5.out.below.trans (hB.mono HST5.out.below.size))
          have hB2:=HBK5.out.on hB
          simp only [List.drop_succ_cons,List.drop_zero]
          refine tail15 hF rfl e3 et hgv hgc hpc.len hpc.one hB2 p3h p4h (by omega) hS2.below.size fun a' t' w9 hF9 ho9 hg9 hv9=>?_
          have HNX:=hideR (mid3_step hB2 hS2 ps p1h p2h p4h p5h HXK.out hpc2 p3h ho9 hg9 hv9)
          obtain ⟨xl,hxl,rfl,hev⟩:=hF9.lit (by simp)
          obtain ⟨x0,x1,x2,x3,x4,x5,rfl⟩:=len6 hxl
          clear hev hxl hF hG hF9 ho9 hg9 hv9 hpc hpc2 hS2 hB2 p1h p2h p3h p4h p5h et hgv hgc e3 hB
          simp only [List.take_succ_cons,List.take_zero,List.drop_succ_cons,List.drop_zero,List.cons_append,List.nil_append]
          go_wp2
          go_roundw
          case rel=>exact ⟨j+1,by omega,by go_num,HNX⟩
          case measure=>simp [intOf];omega
      ·obtain rfl:n5=j:=by omega
       clear HBK HGR HST
       obtain ⟨c5,HMID2⟩:=mid3_fin (hn5 ▸ HMI.out) (by omega)
       have HMID:=hideR HMID2
       clear HMID2 HMI
       go_wp2_with fail
       go_loopw [8] (fun i wr=>∃j:Nat,j<=n8/\i=.int .i64 j/\Hid (Mid4 u1 b m (.slice a1 n1 b1) (.slice a3 n3 b3) (.slice a4 n4 b4) (.slice a6 n6 b6) (.slice a7 n7 b7) c0 c2 c5 j wr)) (fun i _=>n8-(intOf i).toNat)
       case atStart=>exact ⟨0,by omega,rfl,HMID⟩
       case round =>
        obtain ⟨j,hj,rfl,HMI⟩:=hrel
        obtain ⟨t,hBk,hGr,hSt⟩:=HMI.out
        obtain ⟨oT,cT,rfl⟩:=hGr.slice
        have HBK:=hideR hBk
        have HGR:=hideR hGr
        have HST:=hideR hSt
        have kp:=(HP wr hSt.below).out.cell 8 _ rfl
        clear hBk hGr hSt
        by_cases hgo:j<n8
        ·obtain ⟨b1,off1,cap1,hv1,hx1⟩:=Row.some HMU.out.elems (by omega)
         injection hv1 with ho1 e11 e12
         subst ho1
         obtain ⟨x,hxk⟩:∃x,m.elems[j]?=some x:=⟨_,List.getElem?_eq_getElem (by omega)⟩
         have HX:=hideR ((hx1 j x hxk).on HST.out.below)
         have HXK:=hideR hxk
         clear hx1 hxk e11 e12
         obtain ⟨⟨cx0,cx1,cx2,cx3,⟨v4,cx4,ax4⟩,⟨v5,cx5,ax5⟩,⟨v6,cx6,ax6⟩⟩,⟨v7,cx7,ax7⟩⟩:=HX.out
         obtain ⟨q4,z4,rfl⟩:=Row.len ax4
         obtain ⟨q5,z5,rfl⟩:=At.len d _ _ ax5
         obtain ⟨q6,z6,rfl⟩:=At.len d _ _ ax6
         have AX4:=hideR ax4
         have AX5:=hideR ax5
         have AX6:=hideR ax6
         obtain ⟨q7,z7,rfl⟩:=Row.len ax7
         have AX7:=hideR ax7
         obtain ⟨hsmI,hsm7⟩:=HS.out.elems x (List.mem_of_getElem? HXK.out)
         clear ax4 ax5 ax6 ax7
         generalize hy4:x.offset.labels.length=y4 at *
         generalize hy5:size d x.offset.body=y5 at *
         generalize hy6:size d x.offset.els=y6 at *
         generalize hy7:x.funcs.length=y7 at *
         go_upto_region 19 with fail
         clear HMI HMU HM HB2
         refine Reg.wp_region_two 22 (fun i=>126+i) (fun i=>(T19 wr.heap.size b p1 j b1 off1 n8 k8 cT y4 z4 y5 z5 y6 z6 y7 z7 oT q4 q5 q6 q7 x i).1) (by kernel_rfl) (by kernel_rfl) (fun i j h1 h2 h=>by have h':126+i=126+j:=h;omega) (Reg.dst_ok (size:=180) (by kernel_rfl)) (fun i v w w' _ h hb=>(T19 wr.heap.size b p1 j b1 off1 n8 k8 cT y4 z4 y5 z5 y6 z6 y7 z7 oT q4 q5 q6 q7 x i).2 v w w' h hb) ?hstep ?htail
         case hstep =>
          intro i o a w hi ho hF hB hd
          have kb:=(HBK.out.on hB).cell 8 _ rfl
          have kq:=(HP w (HST.out.below.trans (hB.mono HST.out.below.size))).out.cell 8 _ rfl
          have kx0:=cell_on hB cx0
          have kx1:=cell_on hB cx1
          have kx2:=cell_on hB cx2
          have kx3:=cell_on hB cx3
          have kx4:=cell_on hB cx4
          have kx5:=cell_on hB cx5
          have kx6:=cell_on hB cx6
          have kx7:=cell_on hB cx7
          have e1:a.tmps[1]?.getD undef=.pointer (some ⟨p1,0,none⟩):=Reg.ev_get (hF.eval 1 (fun i hi=>by show 126+i≠1;omega))
          have e3:a.tmps[3]?.getD undef=.pointer (some ⟨b,0,none⟩):=Reg.ev_get (hF.eval 3 (fun i hi=>by show 126+i≠3;omega))
          have e8:a.tmps[8]?.getD undef=.int .i64 j:=Reg.ev_get (hF.eval 8 (fun i hi=>by show 126+i≠8;omega))
          have hcase:i=0\/i=1\/i=2\/i=3\/i=4\/i=5\/i=6\/i=7\/i=8\/i=9\/i=10\/i=11\/i=12\/i=13\/i=14\/i=15\/i=16\/i=17\/i=18\/i=19\/i=20\/i=21:=by omega
          clear hi
          rcases hcase with rfl|rfl|rfl|rfl|rfl|rfl|rfl|rfl|rfl|rfl|rfl|rfl|rfl|rfl|rfl|rfl|rfl|rfl|rfl|rfl|rfl|rfl
          all_goals (simp only [List.getElem?_toArray,List.getElem?_cons_succ,List.getElem?_cons_zero,Option.some.injEq] at ho;subst ho)
          ·refine Reg.step_k fun K hK=>?_
           go_simp
           exact hK _ _ ⟨_,rfl,Below.refl _ _,rfl⟩
          ·have q0:a.tmps[126]?.getD undef=.pointer (some ⟨b,8,none⟩):=Reg.ev_get (hd 0 (by decide))
           refine Reg.step_k fun K hK=>?_
           go_simp
           exact hK _ _ ⟨_,rfl,Below.refl _ _,rfl⟩
          ·refine Reg.step_k fun K hK=>?_
           go_simp
           exact hK _ _ ⟨_,rfl,Below.refl _ _,rfl⟩
          ·have q0:a.tmps[128]?.getD undef=.pointer (some ⟨p1,8,none⟩):=Reg.ev_get (hd 2 (by decide))
           refine Reg.step_k fun K hK=>?_
           go_simp
           exact hK _ _ ⟨_,rfl,Below.refl _ _,rfl⟩
          ·refine Reg.step_k fun K hK=>?_
           go_simp
           exact hK _ _ ⟨_,rfl,Below.refl _ _,rfl⟩
          ·have q0:a.tmps[129]?.getD undef=.slice (some ⟨b1,off1,none⟩) n8 k8:=Reg.ev_get (hd 3 (by decide))
           have q1:a.tmps[130]?.getD undef=.int .i64 j:=Reg.ev_get (hd 4 (by decide))
           refine Reg.step_k fun K hK=>?_
           go_simp
           exact hK _ _ ⟨_,rfl,Below.refl _ _,rfl⟩
          ·have q0:a.tmps[131]?.getD undef=.pointer (some ⟨b1,off1+j*8,none⟩):=Reg.ev_get (hd 5 (by decide))
           refine Reg.step_k fun K hK=>?_
           go_simp
           exact hK _ _ ⟨_,rfl,Below.refl _ _,rfl⟩
          ·have q0:a.tmps[132]?.getD undef=.pointer (some ⟨b1,off1+j*8,none⟩):=Reg.ev_get (hd 6 (by decide))
           refine Reg.step_k fun K hK=>?_
           go_simp
           exact hK _ _ ⟨_,rfl,Below.refl _ _,rfl⟩
          ·have q0:a.tmps[133]?.getD undef=.agg #[.int .i64 x.offset.op,.int .i64 x.offset.a,.int .i64 x.offset.b,.int .i64 x.offset.n,.slice q4 y4 z4,.slice q5 y5 z5,.slice q6 y6 z6]:=Reg.ev_get (hd 7 (by decide))
           have HO:=hideR (one_ins (AX4.out.on hB) (At.on hB d _ _ AX5.out) (At.on hB d _ _ AX6.out))
           refine Reg.step_k fun K hK=>?_
           go_simp
           exact hK _ _ ⟨_,rfl,new_on' _ _,⟨_,rfl,HO.out⟩⟩
          ·obtain ⟨g,hv,hAt⟩:=(show (sOneI x.offset).1 (a.eval (.tmp 134)) w from hd 8 (by decide))
           rw [hv] at hAt
           have HAV:=hideR hAt
           have q0:=Reg.ev_get hv
           clear hv hAt
           refine Reg.step_k fun K hK=>?_
           have HKK:=hideR hK
           clear hK
           go_simp
           refine (refCopies (d+1) _ [x.offset] w HAV.out ⟨by simp,fun y hy=>by rw [List.mem_singleton.1 hy];exact hsmI⟩).mono ?_
           rintro e w' ⟨v',rfl,hA,hb⟩
           exact HKK.out _ _ ⟨v',rfl,hb,at_ge hA hB.size⟩
          ·obtain ⟨g,o,cc,hv,hc⟩:=Row.some (show Row 7 _ (a.eval (.tmp 135)) [x.offset] from hd 9 (by decide)) (by simp)
           have HC:=hideR (hc 0 _ rfl)
           have q0:=Reg.ev_get hv
           simp only [List.length_cons,List.length_nil,Nat.zero_add] at q0
           clear hv hc
           refine Reg.step_k fun K hK=>?_
           go_simp
           exact hK _ _ ⟨_,rfl,Below.refl _ _,⟨g,o,rfl,by have:=HC.out;simpa using this⟩⟩
          ·obtain ⟨g,o,hv,hc⟩:=(show (sInsP wr.heap.size x.offset).1 (a.eval (.tmp 136)) w from hd 10 (by decide))
           have q0:=Reg.ev_get hv
           obtain ⟨r0,r1,r2,r3,⟨u4,r4,s4⟩,⟨u5,r5,s5⟩,⟨u6,r6,s6⟩⟩:=hc
           obtain ⟨j4,l4,rfl⟩:=Row.len s4
           obtain ⟨j5,l5,rfl⟩:=At.len d _ _ s5
           obtain ⟨j6,l6,rfl⟩:=At.len d _ _ s6
           have HV:=hideR (InsVals.mk s4 s5 s6)
           rw [hy4,hy5,hy6] at HV
           clear hv s4 s5 s6
           have r0:=only_sub _ _ _ _ _ r0
           have r1:=only_sub _ _ _ _ _ r1
           have r2:=only_sub _ _ _ _ _ r2
           have r3:=only_sub _ _ _ _ _ r3
           have r4:=only_sub _ _ _ _ _ r4
           have r5:=only_sub _ _ _ _ _ r5
           have r6:=only_sub _ _ _ _ _ r6
           refine Reg.step_k fun K hK=>?_
           go_simp
           exact hK _ _ ⟨_,rfl,Below.refl _ _,⟨_,_,_,_,_,_,_,_,_,rfl,HV.out⟩⟩
          ·refine Reg.step_k fun K hK=>?_
           go_simp
           exact hK _ _ ⟨_,rfl,new_on' _ _,⟨_,rfl,hB.size,heap_alloc_new _ _⟩⟩
          ·refine Reg.step_k fun K hK=>?_
           go_simp
           exact hK _ _ ⟨_,rfl,Below.refl _ _,rfl⟩
          ·have q0:a.tmps[139]?.getD undef=.pointer (some ⟨p1,8,none⟩):=Reg.ev_get (hd 13 (by decide))
           refine Reg.step_k fun K hK=>?_
           go_simp
           exact hK _ _ ⟨_,rfl,Below.refl _ _,rfl⟩
          ·refine Reg.step_k fun K hK=>?_
           go_simp
           exact hK _ _ ⟨_,rfl,Below.refl _ _,rfl⟩
          ·have q0:a.tmps[140]?.getD undef=.slice (some ⟨b1,off1,none⟩) n8 k8:=Reg.ev_get (hd 14 (by decide))
           have q1:a.tmps[141]?.getD undef=.int .i64 j:=Reg.ev_get (hd 15 (by decide))
           refine Reg.step_k fun K hK=>?_
           go_simp
           exact hK _ _ ⟨_,rfl,Below.refl _ _,rfl⟩
          ·have q0:a.tmps[142]?.getD undef=.pointer (some ⟨b1,off1+j*8,none⟩):=Reg.ev_get (hd 16 (by decide))
           refine Reg.step_k fun K hK=>?_
           go_simp
           exact hK _ _ ⟨_,rfl,Below.refl _ _,rfl⟩
          ·have q0:a.tmps[143]?.getD undef=.pointer (some ⟨b1,off1+j*8+7,none⟩):=Reg.ev_get (hd 17 (by decide))
           refine Reg.step_k fun K hK=>?_
           go_simp
           exact hK _ _ ⟨_,rfl,Below.refl _ _,rfl⟩
          ·have qm:Mk wr.heap.size 3 (a.eval (.tmp 138)) w:=hd 12 (by decide)
           have qx:a.eval (.tmp 144)=.slice q7 y7 z7:=hd 18 (by decide)
           obtain ⟨i1,i2,i3⟩:=ints_get (AX7.out.on hB)
           refine op_app0 _ _ 28 rfl wr.heap.size 3 Tryd.underlying28 intInfo' (by decide) rfl qm rfl _ _ _ qx (ints x.funcs) i1 (by rw [Nat.mul_one,i2];exact List.length_map ..) i3 (ints_one _) (by unfold maxLen;omega) (by omega) fun v' w' ho hb=>⟨v',rfl,hb,?_⟩
           rw [i2] at ho;exact ho
          ·obtain ⟨o4,m4,c4,o5,m5,c5,o6,m6,c6,hv,hV⟩:=(show (sInsA wr.heap.size x.offset).1 (a.eval (.tmp 137)) w from hd 11 (by decide))
           have w1:w.ownsRow wr.heap.size 3 1 (a.eval (.tmp 145)) x.funcs.length (ints x.funcs):=hd 19 (by decide)
           obtain ⟨s1,r1,hs1⟩:=own_slice w1
           rw [hs1] at w1
           have HPI:=hideR (piece_elm hV (ints_ge w1 (by omega)))
           rw [hy7] at HPI
           clear w1 hV
           have t0:=Reg.ev_get hv
           have t1:=Reg.ev_get hs1
           refine Reg.step_k fun K hK=>?_
           go_simp
           exact hK _ _ ⟨_,rfl,Below.refl _ _,⟨_,_,_,_,_,_,_,_,rfl,HPI.out⟩⟩
          ·obtain ⟨x0,x1,x2,x3,x4,x5,x6,x7,hv,hp⟩:=(show (sAgg8 wr.heap.size (fun R=>ElmAt R d) x).1 (a.eval (.tmp 146)) w from hd 20 (by decide))
           have qv:=Reg.ev_get hv
           have HPI:=hideR hp
           clear hp hv
           refine Reg.step_k fun K hK=>?_
           go_simp
           exact hK _ _ ⟨_,rfl,new_on' _ _,⟨_,[x0,x1,x2,x3,x4,x5,x6,x7],rfl,heap_alloc_new _ _,HPI.out.sub (sub_ge (new_on' _ _))⟩⟩
         case htail =>
          intro a w2 hF hB hG
          have et:a.eval (.tmp 127)=.slice oT j cT:=hG 1 (by omega)
          obtain ⟨g,cs,hgv,hgc,hpc⟩:=(show (sOne wr.heap.size 8 52 (fun R=>ElmAt R d) x).1 (a.eval (.tmp 147)) w2 from hG 21 (by omega))
          have e3:a.tmps[3]?.getD undef=.pointer (some ⟨b,0,none⟩):=Reg.ev_get (hF.eval 3 (fun i hi=>by show 126+i≠3;omega))
          obtain ⟨ps,p1h,p2h,p3h,p4h,p5h⟩:=HGR.out.below hB
          have hpc2:=hpc.sub (sub_sel (B:=u1.heap.size) (b:=b) (t:=.slice oT j cT) HST.out.below.size HBK.out.lt (fun k hk=>(HGR.out.lt k hk).2))
          have hS2:=HST.out.keep (sub_below hB) (HST.out.below.trans (hB.mono HST.out.below.size))
          have hB2:=HBK.out.on hB
          simp only [List.drop_succ_cons,List.drop_zero]
          refine tail19 hF rfl e3 et hgv hgc hpc.len hpc.one hB2 p3h p4h (by omega) hS2.below.size fun a' t' w9 hF9 ho9 hg9 hv9=>?_
          have HNX:=hideR (mid4_step hB2 hS2 ps p1h p2h p4h p5h HXK.out hpc2 p3h ho9 hg9 hv9)
          obtain ⟨xl,hxl,rfl,hev⟩:=hF9.lit (by simp)
          obtain ⟨x0,x1,x2,x3,x4,x5,x6,x7,x8,x9,x10,x11,x12,x13,x14,x15,x16,x17,x18,x19,x20,x21,x22,x23,rfl⟩:=len24 hxl
          clear hev hxl hF hG hF9 ho9 hg9 hv9 hpc hpc2 hS2 hB2 p1h p2h p3h p4h p5h et hgv hgc e3 hB
          simp only [List.take_succ_cons,List.take_zero,List.drop_succ_cons,List.drop_zero,List.cons_append,List.nil_append]
          go_wp2
          go_roundw
          case rel=>exact ⟨j+1,by omega,by go_num,HNX⟩
          case measure=>simp [intOf];omega
        ·obtain rfl:n8=j:=by omega
         clear HBK HGR HST
         obtain ⟨c8,HMID2⟩:=mid4_fin (hn8 ▸ HMI.out) (by omega)
         have HMID:=hideR HMID2
         clear HMID2 HMI
         go_wp2_with fail
         go_loopw [9] (fun i wr=>∃j:Nat,j<=n9/\i=.int .i64 j/\Hid (Mid5 u1 b m (.slice a1 n1 b1) (.slice a3 n3 b3) (.slice a4 n4 b4) (.slice a6 n6 b6) (.slice a7 n7 b7) c0 c2 c5 c8 j wr)) (fun i _=>n9-(intOf i).toNat)
         case atStart=>exact ⟨0,by omega,rfl,HMID⟩
         case round =>
          obtain ⟨j,hj,rfl,HMI⟩:=hrel
          obtain ⟨t,hBk,hGr,hSt⟩:=HMI.out
          obtain ⟨oT,cT,rfl⟩:=hGr.slice
          have HBK:=hideR hBk
          have HGR:=hideR hGr
          have HST:=hideR hSt
          have kp:=(HP wr hSt.below).out.cell 9 _ rfl
          clear hBk hGr hSt
          by_cases hgo:j<n9
          ·obtain ⟨b1,off1,cap1,hv1,hx1⟩:=Row.some HMU.out.datas (by omega)
           injection hv1 with ho1 e11 e12
           subst ho1
           obtain ⟨x,hxk⟩:∃x,m.datas[j]?=some x:=⟨_,List.getElem?_eq_getElem (by omega)⟩
           have HX:=hideR ((hx1 j x hxk).on HST.out.below)
           have HXK:=hideR hxk
           clear hx1 hxk e11 e12
           obtain ⟨⟨cx0,cx1,cx2,cx3,⟨v4,cx4,ax4⟩,⟨v5,cx5,ax5⟩,⟨v6,cx6,ax6⟩⟩,cx7⟩:=HX.out
           obtain ⟨q4,z4,rfl⟩:=Row.len ax4
           obtain ⟨q5,z5,rfl⟩:=At.len d _ _ ax5
           obtain ⟨q6,z6,rfl⟩:=At.len d _ _ ax6
           have AX4:=hideR ax4
           have AX5:=hideR ax5
           have AX6:=hideR ax6
           obtain ⟨hsmI,hsm7⟩:=HS.out.datas x (List.mem_of_getElem? HXK.out)
           clear ax4 ax5 ax6
           generalize hy4:x.offset.labels.length=y4 at *
           generalize hy5:size d x.offset.body=y5 at *
           generalize hy6:size d x.offset.els=y6 at *
           go_upto_region 23 with fail
           clear HMI HMU HM HB2
           refine Reg.wp_region_two 20 (fun i=>157+i) (fun i=>(T23 wr.heap.size b p1 j b1 off1 n9 k9 cT y4 z4 y5 z5 y6 z6 oT q4 q5 q6 x i).1) (by kernel_rfl) (by kernel_rfl) (fun i j h1 h2 h=>by have h':157+i=157+j:=h;omega) (Reg.dst_ok (size:=180) (by kernel_rfl)) (fun i v w w' _ h hb=>(T23 wr.heap.size b p1 j b1 off1 n9 k9 cT y4 z4 y5 z5 y6 z6 oT q4 q5 q6 x i).2 v w w' h hb) ?hstep ?htail
           case hstep =>
            intro i o a w hi ho hF hB hd
            have kb:=(HBK.out.on hB).cell 9 _ rfl
            have kq:=(HP w (HST.out.below.trans (hB.mono HST.out.below.size))).out.cell 9 _ rfl
            have kx0:=cell_on hB cx0
            have kx1:=cell_on hB cx1
            have kx2:=cell_on hB cx2
            have kx3:=cell_on hB cx3
            have kx4:=cell_on hB cx4
            have kx5:=cell_on hB cx5
            have kx6:=cell_on hB cx6
            have kx7:=cell_on hB cx7
            have e1:a.tmps[1]?.getD undef=.pointer (some ⟨p1,0,none⟩):=Reg.ev_get (hF.eval 1 (fun i hi=>by show 157+i≠1;omega))
            have e3:a.tmps[3]?.getD undef=.pointer (some ⟨b,0,none⟩):=Reg.ev_get (hF.eval 3 (fun i hi=>by show 157+i≠3;omega))
            have e9:a.tmps[9]?.getD undef=.int .i64 j:=Reg.ev_get (hF.eval 9 (fun i hi=>by show 157+i≠9;omega))
            have hcase:i=0\/i=1\/i=2\/i=3\/i=4\/i=5\/i=6\/i=7\/i=8\/i=9\/i=10\/i=11\/i=12\/i=13\/i=14\/i=15\/i=16\/i=17\/i=18\/i=19:=by omega
            clear hi
            rcases hcase with rfl|rfl|rfl|rfl|rfl|rfl|rfl|rfl|rfl|rfl|rfl|rfl|rfl|rfl|rfl|rfl|rfl|rfl|rfl|rfl
            all_goals (simp only [List.getElem?_toArray,List.getElem?_cons_succ,List.getElem?_cons_zero,Option.some.injEq] at ho;subst ho)
            ·refine Reg.step_k fun K hK=>?_
             go_simp
             exact hK _ _ ⟨_,rfl,Below.refl _ _,rfl⟩
            ·have q0:a.tmps[157]?.getD undef=.pointer (some ⟨b,9,none⟩):=Reg.ev_get (hd 0 (by decide))
             refine Reg.step_k fun K hK=>?_
             go_simp
             exact hK _ _ ⟨_,rfl,Below.refl _ _,rfl⟩
            ·refine Reg.step_k fun K hK=>?_
             go_simp
             exact hK _ _ ⟨_,rfl,Below.refl _ _,rfl⟩
            ·have q0:a.tmps[159]?.getD undef=.pointer (some ⟨p1,9,none⟩):=Reg.ev_get (hd 2 (by decide))
             refine Reg.step_k fun K hK=>?_
             go_simp
             exact hK _ _ ⟨_,rfl,Below.refl _ _,rfl⟩
            ·refine Reg.step_k fun K hK=>?_
             go_simp
             exact hK _ _ ⟨_,rfl,Below.refl _ _,rfl⟩
            ·have q0:a.tmps[160]?.getD undef=.slice (some ⟨b1,off1,none⟩) n9 k9:=Reg.ev_get (hd 3 (by decide))
             have q1:a.tmps[161]?.getD undef=.int .i64 j:=Reg.ev_get (hd 4 (by decide))
             refine Reg.step_k fun K hK=>?_
             go_simp
             exact hK _ _ ⟨_,rfl,Below.refl _ _,rfl⟩
            ·have q0:a.tmps[162]?.getD undef=.pointer (some ⟨b1,off1+j*8,none⟩):=Reg.ev_get (hd 5 (by decide))
             refine Reg.step_k fun K hK=>?_
             go_simp
             exact hK _ _ ⟨_,rfl,Below.refl _ _,rfl⟩
            ·have q0:a.tmps[163]?.getD undef=.pointer (some ⟨b1,off1+j*8,none⟩):=Reg.ev_get (hd 6 (by decide))
             refine Reg.step_k fun K hK=>?_
             go_simp
             exact hK _ _ ⟨_,rfl,Below.refl _ _,rfl⟩
            ·have q0:a.tmps[164]?.getD undef=.agg #[.int .i64 x.offset.op,.int .i64 x.offset.a,.int .i64 x.offset.b,.int .i64 x.offset.n,.slice q4 y4 z4,.slice q5 y5 z5,.slice q6 y6 z6]:=Reg.ev_get (hd 7 (by decide))
             have HO:=hideR (one_ins (AX4.out.on hB) (At.on hB d _ _ AX5.out) (At.on hB d _ _ AX6.out))
             refine Reg.step_k fun K hK=>?_
             go_simp
             exact hK _ _ ⟨_,rfl,new_on' _ _,⟨_,rfl,HO.out⟩⟩
            ·obtain ⟨g,hv,hAt⟩:=(show (sOneI x.offset).1 (a.eval (.tmp 165)) w from hd 8 (by decide))
             rw [hv] at hAt
             have HAV:=hideR hAt
             have q0:=Reg.ev_get hv
             clear hv hAt
             refine Reg.step_k fun K hK=>?_
             have HKK:=hideR hK
             clear hK
             go_simp
             refine (refCopies (d+1) _ [x.offset] w HAV.out ⟨by simp,fun y hy=>by rw [List.mem_singleton.1 hy];exact hsmI⟩).mono ?_
             rintro e w' ⟨v',rfl,hA,hb⟩
             exact HKK.out _ _ ⟨v',rfl,hb,at_ge hA hB.size⟩
            ·obtain ⟨g,o,cc,hv,hc⟩:=Row.some (show Row 7 _ (a.eval (.tmp 166)) [x.offset] from hd 9 (by decide)) (by simp)
             have HC:=hideR (hc 0 _ rfl)
             have q0:=Reg.ev_get hv
             simp only [List.length_cons,List.length_nil,Nat.zero_add] at q0
             clear hv hc
             refine Reg.step_k fun K hK=>?_
             go_simp
             exact hK _ _ ⟨_,rfl,Below.refl _ _,⟨g,o,rfl,by have:=HC.out;simpa using this⟩⟩
            ·obtain ⟨g,o,hv,hc⟩:=(show (sInsP wr.heap.size x.offset).1 (a.eval (.tmp 167)) w from hd 10 (by decide))
             have q0:=Reg.ev_get hv
             obtain ⟨r0,r1,r2,r3,⟨u4,r4,s4⟩,⟨u5,r5,s5⟩,⟨u6,r6,s6⟩⟩:=hc
             obtain ⟨j4,l4,rfl⟩:=Row.len s4
             obtain ⟨j5,l5,rfl⟩:=At.len d _ _ s5
             obtain ⟨j6,l6,rfl⟩:=At.len d _ _ s6
             have HV:=hideR (InsVals.mk s4 s5 s6)
             rw [hy4,hy5,hy6] at HV
             clear hv s4 s5 s6
             have r0:=only_sub _ _ _ _ _ r0
             have r1:=only_sub _ _ _ _ _ r1
             have r2:=only_sub _ _ _ _ _ r2
             have r3:=only_sub _ _ _ _ _ r3
             have r4:=only_sub _ _ _ _ _ r4
             have r5:=only_sub _ _ _ _ _ r5
             have r6:=only_sub _ _ _ _ _ r6
             refine Reg.step_k fun K hK=>?_
             go_simp
             exact hK _ _ ⟨_,rfl,Below.refl _ _,⟨_,_,_,_,_,_,_,_,_,rfl,HV.out⟩⟩
            ·refine Reg.step_k fun K hK=>?_
             go_simp
             exact hK _ _ ⟨_,rfl,Below.refl _ _,rfl⟩
            ·have q0:a.tmps[169]?.getD undef=.pointer (some ⟨p1,9,none⟩):=Reg.ev_get (hd 12 (by decide))
             refine Reg.step_k fun K hK=>?_
             go_simp
             exact hK _ _ ⟨_,rfl,Below.refl _ _,rfl⟩
            ·refine Reg.step_k fun K hK=>?_
             go_simp
             exact hK _ _ ⟨_,rfl,Below.refl _ _,rfl⟩
            ·have q0:a.tmps[170]?.getD undef=.slice (some ⟨b1,off1,none⟩) n9 k9:=Reg.ev_get (hd 13 (by decide))
             have q1:a.tmps[171]?.getD undef=.int .i64 j:=Reg.ev_get (hd 14 (by decide))
             refine Reg.step_k fun K hK=>?_
             go_simp
             exact hK _ _ ⟨_,rfl,Below.refl _ _,rfl⟩
            ·have q0:a.tmps[172]?.getD undef=.pointer (some ⟨b1,off1+j*8,none⟩):=Reg.ev_get (hd 15 (by decide))
             refine Reg.step_k fun K hK=>?_
             go_simp
             exact hK _ _ ⟨_,rfl,Below.refl _ _,rfl⟩
            ·have q0:a.tmps[173]?.getD undef=.pointer (some ⟨b1,off1+j*8+7,none⟩):=Reg.ev_get (hd 16 (by decide))
             refine Reg.step_k fun K hK=>?_
             go_simp
             exact hK _ _ ⟨_,rfl,Below.refl _ _,rfl⟩
            ·obtain ⟨o4,m4,c4,o5,m5,c5,o6,m6,c6,hv,hV⟩:=(show (sInsA wr.heap.size x.offset).1 (a.eval (.tmp 168)) w from hd 11 (by decide))
             have t1:a.tmps[174]?.getD undef=.string x.bytes:=Reg.ev_get (hd 17 (by decide))
             have HPI:=hideR (piece_dat hV)
             clear hV
             have t0:=Reg.ev_get hv
             refine Reg.step_k fun K hK=>?_
             go_simp
             exact hK _ _ ⟨_,rfl,Below.refl _ _,⟨_,_,_,_,_,_,_,_,rfl,HPI.out⟩⟩
            ·obtain ⟨x0,x1,x2,x3,x4,x5,x6,x7,hv,hp⟩:=(show (sAgg8 wr.heap.size (fun R=>DatAt R d) x).1 (a.eval (.tmp 175)) w from hd 18 (by decide))
             have qv:=Reg.ev_get hv
             have HPI:=hideR hp
             clear hp hv
             refine Reg.step_k fun K hK=>?_
             go_simp
             exact hK _ _ ⟨_,rfl,new_on' _ _,⟨_,[x0,x1,x2,x3,x4,x5,x6,x7],rfl,heap_alloc_new _ _,HPI.out.sub (sub_ge (new_on' _ _))⟩⟩
           case htail =>
            intro a w2 hF hB hG
            have et:a.eval (.tmp 158)=.slice oT j cT:=hG 1 (by omega)
            obtain ⟨g,cs,hgv,hgc,hpc⟩:=(show (sOne wr.heap.size 8 54 (fun R=>DatAt R d) x).1 (a.eval (.tmp 176)) w2 from hG 19 (by omega))
            have e3:a.tmps[3]?.getD undef=.pointer (some ⟨b,0,none⟩):=Reg.ev_get (hF.eval 3 (fun i hi=>by show 157+i≠3;omega))
            obtain ⟨ps,p1h,p2h,p3h,p4h,p5h⟩:=HGR.out.below hB
            have hpc2:=hpc.sub (sub_sel (B:=u1.heap.size) (b:=b) (t:=.slice oT j cT) HST.out.below.size HBK.out.lt (fun k hk=>(HGR.out.lt k hk).2))
            have hS2:=HST.out.keep (sub_below hB) (HST.out.below.trans (hB.mono HST.out.below.size))
            have hB2:=HBK.out.on hB
            simp only [List.drop_succ_cons,List.drop_zero]
            refine tail23 hF rfl e3 et hgv hgc hpc.len hpc.one hB2 p3h p4h (by omega) hS2.below.size fun a' t' w9 hF9 ho9 hg9 hv9=>?_
            have HNX:=hideR (mid5_step hB2 hS2 ps p1h p2h p4h p5h HXK.out hpc2 p3h ho9 hg9 hv9)
            obtain ⟨xl,hxl,rfl,hev⟩:=hF9.lit (by simp)
            obtain ⟨x0,x1,x2,x3,x4,x5,x6,x7,x8,x9,x10,x11,x12,x13,x14,x15,x16,x17,x18,x19,x20,x21,rfl⟩:=len22 hxl
            clear hev hxl hF hG hF9 ho9 hg9 hv9 hpc hpc2 hS2 hB2 p1h p2h p3h p4h p5h et hgv hgc e3 hB
            simp only [List.take_succ_cons,List.take_zero,List.drop_succ_cons,List.drop_zero,List.cons_append,List.nil_append]
            go_wp2
            go_roundw
            case rel=>exact ⟨j+1,by omega,by go_num,HNX⟩
            case measure=>simp [intOf];omega
          ·obtain rfl:n9=j:=by omega
           clear HBK HGR HST
           obtain ⟨c9,hK,_,hM1,hcap3,hcap4⟩:=mid5_end (w':=wr) (hn9 ▸ HMI.out) (by omega) (fun _ _ _=>rfl)
           obtain ⟨e0,f0,rfl⟩:=Row.len hM1.types
           obtain ⟨e2,f2,rfl⟩:=Row.len hM1.funcs
           obtain ⟨e5,f5,rfl⟩:=Row.len hM1.globals
           obtain ⟨e8,f8,rfl⟩:=Row.len hM1.elems
           obtain ⟨e9,f9,rfl⟩:=Row.len hM1.datas
           have hBel:Below u1.heap.size u1 wr:=by obtain ⟨t,_,_,hs⟩:=HMI.out;exact hs.below
           have HR:=hideR (HB2.out.on hBel)
           rw [hn0,hn2,hn5,hn8,hn9] at hK
           have HFIN:∀w2,Below wr.heap.size wr w2->ModAt (setAll w2 (p1+1) (.slice e0 n0 f0) (.slice a1 n1 b1) (.slice e2 n2 f2) (.slice a3 n3 b3) (.slice a4 n4 b4) (.slice e5 n5 f5) (.slice a6 n6 b6) (.slice a7 n7 b7) (.slice e8 n8 f8) (.slice e9 n9 f9)) d (.slice e0 n0 f0) (.slice a1 n1 b1) (.slice e2 n2 f2) (.slice a3 n3 b3) (.slice a4 n4 b4) (.slice e5 n5 f5) (.slice a6 n6 b6) (.slice a7 n7 b7) (.slice e8 n8 f8) (.slice e9 n9 f9) m:=fun w2 hb=>by
            obtain ⟨c9,hK',_,hM2,_,_⟩:=mid5_end (w':=setAll w2 (p1+1) (.slice e0 n0 f0) (.slice a1 n1 b1) (.slice e2 n2 f2) (.slice a3 n3 b3) (.slice a4 n4 b4) (.slice e5 n5 f5) (.slice a6 n6 b6) (.slice a7 n7 b7) (.slice e8 n8 f8) (.slice e9 n9 f9)) (hn9 ▸ HMI.out) (by omega) (fun k hk hk2=>by rw [setAll_block _ _ _ _ _ _ _ _ _ _ k (by omega),hb.block k hk2])
            unfold BlkM at hK hK'
            rw [hK] at hK'
            rw [hn0,hn2,hn5,hn8] at hK'
            have he:c9=.slice e9 n9 f9:=by simpa using hK'.symm
            rw [he] at hM2
            rw [hn0,hn2,hn5,hn8] at hM2
            exact hM2
           have HKB:=hideR hK
           have HC3:=hideR hcap3
           have HC4:=hideR hcap4
           clear hK hM1 HMI HMU HM HB2 hcap3 hcap4
           go_upto_region 24 with fail
           refine Reg.wp_region_seq 1 (fun i=>179+i) (fun i=>(T24 e0 e2 e5 e8 e9 a1 a3 a4 a6 a7 n0 f0 n1 b1 n2 f2 n3 b3 n4 b4 n5 f5 n6 b6 n7 b7 n8 f8 n9 f9 i).1) ?hn (fun i j h1 h2 h=>by have h':179+i=179+j:=h;omega) (Reg.dst_ok (size:=180) (by kernel_rfl)) (fun i v w w' _ h hb=>(T24 e0 e2 e5 e8 e9 a1 a3 a4 a6 a7 n0 f0 n1 b1 n2 f2 n3 b3 n4 b4 n5 f5 n6 b6 n7 b7 n8 f8 n9 f9 i).2 v w w' h hb) ?hstep ?htail
           case hn=>simp
           case hstep =>
            intro i o a w hi ho hF hB hd
            have kb0:=(HKB.out.on hB).cell 0 _ rfl
            have kb1:=(HKB.out.on hB).cell 1 _ rfl
            have kb2:=(HKB.out.on hB).cell 2 _ rfl
            have kb3:=(HKB.out.on hB).cell 3 _ rfl
            have kb4:=(HKB.out.on hB).cell 4 _ rfl
            have kb5:=(HKB.out.on hB).cell 5 _ rfl
            have kb6:=(HKB.out.on hB).cell 6 _ rfl
            have kb7:=(HKB.out.on hB).cell 7 _ rfl
            have kb8:=(HKB.out.on hB).cell 8 _ rfl
            have kb9:=(HKB.out.on hB).cell 9 _ rfl
            have e3:a.tmps[3]?.getD undef=.pointer (some ⟨b,0,none⟩):=Reg.ev_get (hF.eval 3 (fun i hi=>by show 179+i≠3;omega))
            have hcase:i=0:=by omega
            clear hi
            rcases hcase with rfl
            ·simp only [List.getElem?_toArray,List.getElem?_cons_zero,Option.some.injEq] at ho
             subst ho
             refine Reg.step_k fun K hK=>?_
             go_simp
             exact hK _ _ ⟨_,rfl,Below.refl _ _,rfl⟩
           case htail =>
            intro a w2 hF hB hG
            have h179:a.tmps[179]?.getD undef=.agg #[.slice e0 n0 f0,.slice a1 n1 b1,.slice e2 n2 f2,.slice a3 n3 b3,.slice a4 n4 b4,.slice e5 n5 f5,.slice a6 n6 b6,.slice a7 n7 b7,.slice e8 n8 f8,.slice e9 n9 f9]:=Reg.ev_get (show a.eval (.tmp 179)=_ from hG 0 (by omega))
            have h2:a.tmps[2]?.getD undef=.pointer (some ⟨p1+1,0,none⟩):=Reg.ev_get (hF.eval 2 (fun i hi=>by show 179+i≠2;omega))
            have hR2:=HR.out.on hB
            have HW:=hideR (HFIN w2 hB)
            have HBL:=hideR (setAll_below ((HU.out.trans (hBel.mono (by omega))).trans (hB.mono (by have:=hBel.size;omega))) (Nat.le_succ p1) (.slice e0 n0 f0) (.slice a1 n1 b1) (.slice e2 n2 f2) (.slice a3 n3 b3) (.slice a4 n4 b4) (.slice e5 n5 f5) (.slice a6 n6 b6) (.slice a7 n7 b7) (.slice e8 n8 f8) (.slice e9 n9 f9))
            have HRR:=hideR (hR2.all (.slice e0 n0 f0) (.slice a1 n1 b1) (.slice e2 n2 f2) (.slice a3 n3 b3) (.slice a4 n4 b4) (.slice e5 n5 f5) (.slice a6 n6 b6) (.slice a7 n7 b7) (.slice e8 n8 f8) (.slice e9 n9 f9))
            simp only [List.drop_succ_cons,List.drop_zero]
            refine wpList_plain rfl fun K hK2=>?_
            refine store10 h2 h179 hR2 ?_
            refine hK2 _ _ (wpList_nil ?_)
            clear hK2 hR2 h179 h2
            generalize setAll w2 (p1+1) (.slice e0 n0 f0) (.slice a1 n1 b1) (.slice e2 n2 f2) (.slice a3 n3 b3) (.slice a4 n4 b4) (.slice e5 n5 f5) (.slice a6 n6 b6) (.slice a7 n7 b7) (.slice e8 n8 f8) (.slice e9 n9 f9)=wf at *
            obtain ⟨xl,hxl,rfl,hev⟩:=hF.lit (by simp)
            obtain ⟨x0,rfl⟩:=len1 hxl
            clear hev hxl hF hG hB HFIN hBel
            simp only [List.take_succ_cons,List.take_zero,List.drop_succ_cons,List.drop_zero,List.cons_append,List.nil_append]
            go_wp2_with fail
            try simp only [Exit.inBlock,Exit.then]
            refine bodyPost_ret (result_mod rfl HRR.out) rfl ?_
            exact ⟨_,_,_,_,_,_,_,_,_,_,rfl,HW.out,by rw [hp1];exact HBL.out,HC3.out,HC4.out⟩
end Go.Proofs.YtlcpagiljfpbpaaDoor

