/- Texts that the claim needs. -/
import Derived.Test.YtlcpagiljfpbpaaDoorQEUn15
import Derived.Deep.CutRange
import Derived.Deep.RegionLaw
namespace Go.Proofs.YtlcpagiljfpbpaaDoor
open Go.RowKit Rep
set_option linter.unusedVariables false
namespace Rep
def Z1 (p1 p2 n0 k0 m0 h0 n1 k1 m1 h1 n2 k2 m2 h2 n3 k3 m3 h3 n4 k4 m4 h4 n5 k5 m5 h5 n6 k6 m6 h6 n7 k7 m7 h7 n8 k8 m8 h8 n9 k9 m9 h9:Nat) (o0 g0 o1 g1 o2 g2 o3 g3 o4 g4 o5 g5 o6 g6 o7 g7 o8 g8 o9 g9:Option Addr) (C1 C2 C3 C4 C5 C6 C7 C8 C9 C10 e1 e2 e3 e4 e5 e6 e7 e8 e9 e10:Bool):Nat->Stab
 | 0=>sEq (.pointer (some ⟨p1,0,none⟩))
 | 1=>sEq (.slice o0 n0 k0)
 | 2=>sEq (.int .i64 (n0:Nat))
 | 3=>sEq (.pointer (some ⟨p2,0,none⟩))
 | 4=>sEq (.slice g0 m0 h0)
 | 5=>sEq (.int .i64 (m0:Nat))
 | 6=>sEq (.bool C1)
 | 7=>sEq (.bool C1)
 | 8=>sIf C1 (.pointer (some ⟨p1,1,none⟩))
 | 9=>sIf C1 (.slice o1 n1 k1)
 | 10=>sIf C1 (.int .i64 (n1:Nat))
 | 11=>sIf C1 (.pointer (some ⟨p2,1,none⟩))
 | 12=>sIf C1 (.slice g1 m1 h1)
 | 13=>sIf C1 (.int .i64 (m1:Nat))
 | 14=>sIf C1 (.bool e2)
 | 15=>sEq (.bool C2)
 | 16=>sEq (.bool C2)
 | 17=>sIf C2 (.pointer (some ⟨p1,2,none⟩))
 | 18=>sIf C2 (.slice o2 n2 k2)
 | 19=>sIf C2 (.int .i64 (n2:Nat))
 | 20=>sIf C2 (.pointer (some ⟨p2,2,none⟩))
 | 21=>sIf C2 (.slice g2 m2 h2)
 | 22=>sIf C2 (.int .i64 (m2:Nat))
 | 23=>sIf C2 (.bool e3)
 | 24=>sEq (.bool C3)
 | 25=>sEq (.bool C3)
 | 26=>sIf C3 (.pointer (some ⟨p1,3,none⟩))
 | 27=>sIf C3 (.slice o3 n3 k3)
 | 28=>sIf C3 (.int .i64 (n3:Nat))
 | 29=>sIf C3 (.pointer (some ⟨p2,3,none⟩))
 | 30=>sIf C3 (.slice g3 m3 h3)
 | 31=>sIf C3 (.int .i64 (m3:Nat))
 | 32=>sIf C3 (.bool e4)
 | 33=>sEq (.bool C4)
 | 34=>sEq (.bool C4)
 | 35=>sIf C4 (.pointer (some ⟨p1,4,none⟩))
 | 36=>sIf C4 (.slice o4 n4 k4)
 | 37=>sIf C4 (.int .i64 (n4:Nat))
 | 38=>sIf C4 (.pointer (some ⟨p2,4,none⟩))
 | 39=>sIf C4 (.slice g4 m4 h4)
 | 40=>sIf C4 (.int .i64 (m4:Nat))
 | 41=>sIf C4 (.bool e5)
 | 42=>sEq (.bool C5)
 | 43=>sEq (.bool C5)
 | 44=>sIf C5 (.pointer (some ⟨p1,5,none⟩))
 | 45=>sIf C5 (.slice o5 n5 k5)
 | 46=>sIf C5 (.int .i64 (n5:Nat))
 | 47=>sIf C5 (.pointer (some ⟨p2,5,none⟩))
 | 48=>sIf C5 (.slice g5 m5 h5)
 | 49=>sIf C5 (.int .i64 (m5:Nat))
 | 50=>sIf C5 (.bool e6)
 | 51=>sEq (.bool C6)
 | 52=>sEq (.bool C6)
 | 53=>sIf C6 (.pointer (some ⟨p1,6,none⟩))
 | 54=>sIf C6 (.slice o6 n6 k6)
 | 55=>sIf C6 (.int .i64 (n6:Nat))
 | 56=>sIf C6 (.pointer (some ⟨p2,6,none⟩))
 | 57=>sIf C6 (.slice g6 m6 h6)
 | 58=>sIf C6 (.int .i64 (m6:Nat))
 | 59=>sIf C6 (.bool e7)
 | 60=>sEq (.bool C7)
 | 61=>sEq (.bool C7)
 | 62=>sIf C7 (.pointer (some ⟨p1,7,none⟩))
 | 63=>sIf C7 (.slice o7 n7 k7)
 | 64=>sIf C7 (.pointer (some ⟨p2,7,none⟩))
 | 65=>sIf C7 (.slice g7 m7 h7)
 | 66=>sIf C7 (.bool e8)
 | 67=>sEq (.bool C8)
 | 68=>sEq (.bool C8)
 | 69=>sIf C8 (.pointer (some ⟨p1,8,none⟩))
 | 70=>sIf C8 (.slice o8 n8 k8)
 | 71=>sIf C8 (.int .i64 (n8:Nat))
 | 72=>sIf C8 (.pointer (some ⟨p2,8,none⟩))
 | 73=>sIf C8 (.slice g8 m8 h8)
 | 74=>sIf C8 (.int .i64 (m8:Nat))
 | 75=>sIf C8 (.bool e9)
 | 76=>sEq (.bool C9)
 | 77=>sEq (.bool C9)
 | 78=>sIf C9 (.pointer (some ⟨p1,9,none⟩))
 | 79=>sIf C9 (.slice o9 n9 k9)
 | 80=>sIf C9 (.int .i64 (n9:Nat))
 | 81=>sIf C9 (.pointer (some ⟨p2,9,none⟩))
 | 82=>sIf C9 (.slice g9 m9 h9)
 | 83=>sIf C9 (.int .i64 (m9:Nat))
 | 84=>sIf C9 (.bool e10)
 | 85=>sEq (.bool C10)
 | 86=>sEq (.bool C10)
 | _=>sEq undef
end Rep
set_option maxRecDepth 100000 in
set_option maxHeartbeats 16000000 in
theorem refSizes (d:Nat) (v0 v1 v2 v3 v4 v5 v6 v7 v8 v9 u0 u1 u2 u3 u4 u5 u6 u7 u8 u9:Value) (m k:Mod d) (w:World) (hM:ModAt w d v0 v1 v2 v3 v4 v5 v6 v7 v8 v9 m) (hK:ModAt w d u0 u1 u2 u3 u4 u5 u6 u7 u8 u9 k):Calls Tryd.prog 18 #[.agg #[v0,v1,v2,v3,v4,v5,v6,v7,v8,v9],.agg #[u0,u1,u2,u3,u4,u5,u6,u7,u8,u9]] w (fun e w'=>e=.returned (.bool (szs m k))/\Below w.heap.size w w'):=by
 obtain ⟨o0,k0,rfl⟩:=Row.len hM.types
 obtain ⟨o1,k1,rfl⟩:=Row.len hM.imports
 obtain ⟨o2,k2,rfl⟩:=Row.len hM.funcs
 obtain ⟨o3,k3,rfl⟩:=Row.len hM.tables
 obtain ⟨o4,k4,rfl⟩:=Row.len hM.mems
 obtain ⟨o5,k5,rfl⟩:=Row.len hM.globals
 obtain ⟨o6,k6,rfl⟩:=Row.len hM.exports
 obtain ⟨o7,k7,rfl⟩:=Row.len hM.start
 obtain ⟨o8,k8,rfl⟩:=Row.len hM.elems
 obtain ⟨o9,k9,rfl⟩:=Row.len hM.datas
 obtain ⟨g0,h0,rfl⟩:=Row.len hK.types
 obtain ⟨g1,h1,rfl⟩:=Row.len hK.imports
 obtain ⟨g2,h2,rfl⟩:=Row.len hK.funcs
 obtain ⟨g3,h3,rfl⟩:=Row.len hK.tables
 obtain ⟨g4,h4,rfl⟩:=Row.len hK.mems
 obtain ⟨g5,h5,rfl⟩:=Row.len hK.globals
 obtain ⟨g6,h6,rfl⟩:=Row.len hK.exports
 obtain ⟨g7,h7,rfl⟩:=Row.len hK.start
 obtain ⟨g8,h8,rfl⟩:=Row.len hK.elems
 obtain ⟨g9,h9,rfl⟩:=Row.len hK.datas
 have HM:=hideR hM
 have HK:=hideR hK
 clear hM hK
 obtain ⟨e1,HE10⟩:∃e,e=lq m.types.length k.types.length:=⟨_,rfl⟩
 have HE1:=hideR HE10
 clear HE10
 obtain ⟨e2,HE20⟩:∃e,e=lq m.imports.length k.imports.length:=⟨_,rfl⟩
 have HE2:=hideR HE20
 clear HE20
 obtain ⟨e3,HE30⟩:∃e,e=lq m.funcs.length k.funcs.length:=⟨_,rfl⟩
 have HE3:=hideR HE30
 clear HE30
 obtain ⟨e4,HE40⟩:∃e,e=lq m.tables.length k.tables.length:=⟨_,rfl⟩
 have HE4:=hideR HE40
 clear HE40
 obtain ⟨e5,HE50⟩:∃e,e=lq m.mems.length k.mems.length:=⟨_,rfl⟩
 have HE5:=hideR HE50
 clear HE50
 obtain ⟨e6,HE60⟩:∃e,e=lq m.globals.length k.globals.length:=⟨_,rfl⟩
 have HE6:=hideR HE60
 clear HE60
 obtain ⟨e7,HE70⟩:∃e,e=lq m.exports.length k.exports.length:=⟨_,rfl⟩
 have HE7:=hideR HE70
 clear HE70
 obtain ⟨e8,HE80⟩:∃e,e=decide (m.start=k.start):=⟨_,rfl⟩
 have HE8:=hideR HE80
 clear HE80
 obtain ⟨e9,HE90⟩:∃e,e=lq m.elems.length k.elems.length:=⟨_,rfl⟩
 have HE9:=hideR HE90
 clear HE90
 obtain ⟨e10,HE100⟩:∃e,e=lq m.datas.length k.datas.length:=⟨_,rfl⟩
 have HE10:=hideR HE100
 clear HE100
 obtain ⟨C1,HC10⟩:∃c,c=e1:=⟨_,rfl⟩
 have HC1:=hideR HC10
 clear HC10
 obtain ⟨C2,HC20⟩:∃c,c=(C1 && e2):=⟨_,rfl⟩
 have HC2:=hideR HC20
 clear HC20
 obtain ⟨C3,HC30⟩:∃c,c=(C2 && e3):=⟨_,rfl⟩
 have HC3:=hideR HC30
 clear HC30
 obtain ⟨C4,HC40⟩:∃c,c=(C3 && e4):=⟨_,rfl⟩
 have HC4:=hideR HC40
 clear HC40
 obtain ⟨C5,HC50⟩:∃c,c=(C4 && e5):=⟨_,rfl⟩
 have HC5:=hideR HC50
 clear HC50
 obtain ⟨C6,HC60⟩:∃c,c=(C5 && e6):=⟨_,rfl⟩
 have HC6:=hideR HC60
 clear HC60
 obtain ⟨C7,HC70⟩:∃c,c=(C6 && e7):=⟨_,rfl⟩
 have HC7:=hideR HC70
 clear HC70
 obtain ⟨C8,HC80⟩:∃c,c=(C7 && e8):=⟨_,rfl⟩
 have HC8:=hideR HC80
 clear HC80
 obtain ⟨C9,HC90⟩:∃c,c=(C8 && e9):=⟨_,rfl⟩
 have HC9:=hideR HC90
 clear HC90
 obtain ⟨C10,HC100⟩:∃c,c=(C9 && e10):=⟨_,rfl⟩
 have HC10:=hideR HC100
 clear HC100
 have hZ:szs m k=C10:=by rw [HC10.out,HC9.out,HC8.out,HC7.out,HC6.out,HC5.out,HC4.out,HC3.out,HC2.out,HC1.out,HE1.out,HE2.out,HE3.out,HE4.out,HE5.out,HE6.out,HE7.out,HE8.out,HE9.out,HE10.out];rfl
 rw [hZ]
 clear hZ
 generalize m.types.length=n0 at *
 generalize m.imports.length=n1 at *
 generalize m.funcs.length=n2 at *
 generalize m.tables.length=n3 at *
 generalize m.mems.length=n4 at *
 generalize m.globals.length=n5 at *
 generalize m.exports.length=n6 at *
 generalize m.start.length=n7 at *
 generalize m.elems.length=n8 at *
 generalize m.datas.length=n9 at *
 generalize k.types.length=m0 at *
 generalize k.imports.length=m1 at *
 generalize k.funcs.length=m2 at *
 generalize k.tables.length=m3 at *
 generalize k.mems.length=m4 at *
 generalize k.globals.length=m5 at *
 generalize k.exports.length=m6 at *
 generalize k.start.length=m7 at *
 generalize k.elems.length=m8 at *
 generalize k.datas.length=m9 at *
 go_enter Tryd.func18,Tryd.ntmps18
 go_upto_region 1 with fail
 obtain ⟨u1,hu1⟩:∃u1,u1=(w.alloc (.cells #[.slice o0 n0 k0,.slice o1 n1 k1,.slice o2 n2 k2,.slice o3 n3 k3,.slice o4 n4 k4,.slice o5 n5 k5,.slice o6 n6 k6,.slice o7 n7 k7,.slice o8 n8 k8,.slice o9 n9 k9] 32)).alloc (.cells #[.slice g0 m0 h0,.slice g1 m1 h1,.slice g2 m2 h2,.slice g3 m3 h3,.slice g4 m4 h4,.slice g5 m5 h5,.slice g6 m6 h6,.slice g7 m7 h7,.slice g8 m8 h8,.slice g9 m9 h9] 32):=⟨_,rfl⟩
 have HB1:Hid (BlkM u1 w.heap.size (.slice o0 n0 k0) (.slice o1 n1 k1) (.slice o2 n2 k2) (.slice o3 n3 k3) (.slice o4 n4 k4) (.slice o5 n5 k5) (.slice o6 n6 k6) (.slice o7 n7 k7) (.slice o8 n8 k8) (.slice o9 n9 k9)):=hideR (by rw [hu1];exact (BlkM.new rfl).on (new_on' _ _))
 have HB2:Hid (BlkM u1 (w.heap.size+1) (.slice g0 m0 h0) (.slice g1 m1 h1) (.slice g2 m2 h2) (.slice g3 m3 h3) (.slice g4 m4 h4) (.slice g5 m5 h5) (.slice g6 m6 h6) (.slice g7 m7 h7) (.slice g8 m8 h8) (.slice g9 m9 h9)):=hideR (by rw [hu1];exact BlkM.new (by simp))
 have HU:Hid (Below w.heap.size w u1):=hideR (by rw [hu1];exact below_go' (new_on' _ _) (new_on' _ _))
 have HMU:=hideR (HM.out.on HU.out)
 have HKU:=hideR (HK.out.on HU.out)
 rw [<- hu1]
 clear hu1
 have HP:∀w2,Below u1.heap.size u1 w2->Hid (BlkM w2 w.heap.size (.slice o0 n0 k0) (.slice o1 n1 k1) (.slice o2 n2 k2) (.slice o3 n3 k3) (.slice o4 n4 k4) (.slice o5 n5 k5) (.slice o6 n6 k6) (.slice o7 n7 k7) (.slice o8 n8 k8) (.slice o9 n9 k9)):=fun w2 hb=>hideR (HB1.out.on hb)
 have HQ:∀w2,Below u1.heap.size u1 w2->Hid (BlkM w2 (w.heap.size+1) (.slice g0 m0 h0) (.slice g1 m1 h1) (.slice g2 m2 h2) (.slice g3 m3 h3) (.slice g4 m4 h4) (.slice g5 m5 h5) (.slice g6 m6 h6) (.slice g7 m7 h7) (.slice g8 m8 h8) (.slice g9 m9 h9)):=fun w2 hb=>hideR (HB2.out.on hb)
 clear HB1 HB2
 obtain ⟨p2,hp2⟩:∃p2,p2=w.heap.size+1:=⟨_,rfl⟩
 rw [<- hp2] at HQ ⊢
 clear hp2
 generalize hp1:w.heap.size=p1 at HP ⊢
 simp only [List.append_eq,List.cons_append,List.nil_append]
 clear HM HK
 refine Reg.wp_region_allq 87 (fun i=>if i<86 then 5+i else 4) (fun i=>(Z1 p1 p2 n0 k0 m0 h0 n1 k1 m1 h1 n2 k2 m2 h2 n3 k3 m3 h3 n4 k4 m4 h4 n5 k5 m5 h5 n6 k6 m6 h6 n7 k7 m7 h7 n8 k8 m8 h8 n9 k9 m9 h9 o0 g0 o1 g1 o2 g2 o3 g3 o4 g4 o5 g5 o6 g6 o7 g7 o8 g8 o9 g9 C1 C2 C3 C4 C5 C6 C7 C8 C9 C10 e1 e2 e3 e4 e5 e6 e7 e8 e9 e10 i).1) ?hn (fun i j h1 h2 h=>by have h':(if i<86 then 5+i else 4)=(if j<86 then 5+j else 4):=h;split at h'<;>split at h'<;>omega) (Reg.dst_okG (size:=91) (by kernel_rfl)) (fun i v w w' _ h hb=>(Z1 p1 p2 n0 k0 m0 h0 n1 k1 m1 h1 n2 k2 m2 h2 n3 k3 m3 h3 n4 k4 m4 h4 n5 k5 m5 h5 n6 k6 m6 h6 n7 k7 m7 h7 n8 k8 m8 h8 n9 k9 m9 h9 o0 g0 o1 g1 o2 g2 o3 g3 o4 g4 o5 g5 o6 g6 o7 g7 o8 g8 o9 g9 C1 C2 C3 C4 C5 C6 C7 C8 C9 C10 e1 e2 e3 e4 e5 e6 e7 e8 e9 e10 i).2 v w w' h hb) ?hstep ?htail
 case hn=>simp
 case hstep =>
  intro i o a w hi ho hF hB hd
  have f2:a.tmps[2]?.getD undef=.pointer (some ⟨p1,0,none⟩):=Reg.ev_get (hF.eval 2 (fun i hi=>by show (if i<86 then 5+i else 4)≠2;split<;>omega))
  have f3:a.tmps[3]?.getD undef=.pointer (some ⟨p2,0,none⟩):=Reg.ev_get (hF.eval 3 (fun i hi=>by show (if i<86 then 5+i else 4)≠3;split<;>omega))
  have c0:=(HP w hB).out.cell 0 _ rfl
  have c1:=(HP w hB).out.cell 1 _ rfl
  have c2:=(HP w hB).out.cell 2 _ rfl
  have c3:=(HP w hB).out.cell 3 _ rfl
  have c4:=(HP w hB).out.cell 4 _ rfl
  have c5:=(HP w hB).out.cell 5 _ rfl
  have c6:=(HP w hB).out.cell 6 _ rfl
  have c7:=(HP w hB).out.cell 7 _ rfl
  have c8:=(HP w hB).out.cell 8 _ rfl
  have c9:=(HP w hB).out.cell 9 _ rfl
  have d0:=(HQ w hB).out.cell 0 _ rfl
  have d1:=(HQ w hB).out.cell 1 _ rfl
  have d2:=(HQ w hB).out.cell 2 _ rfl
  have d3:=(HQ w hB).out.cell 3 _ rfl
  have d4:=(HQ w hB).out.cell 4 _ rfl
  have d5:=(HQ w hB).out.cell 5 _ rfl
  have d6:=(HQ w hB).out.cell 6 _ rfl
  have d7:=(HQ w hB).out.cell 7 _ rfl
  have d8:=(HQ w hB).out.cell 8 _ rfl
  have d9:=(HQ w hB).out.cell 9 _ rfl
  have hcase:i=0\/i=1\/i=2\/i=3\/i=4\/i=5\/i=6\/i=7\/i=8\/i=9\/i=10\/i=11\/i=12\/i=13\/i=14\/i=15\/i=16\/i=17\/i=18\/i=19\/i=20\/i=21\/i=22\/i=23\/i=24\/i=25\/i=26\/i=27\/i=28\/i=29\/i=30\/i=31\/i=32\/i=33\/i=34\/i=35\/i=36\/i=37\/i=38\/i=39\/i=40\/i=41\/i=42\/i=43\/i=44\/i=45\/i=46\/i=47\/i=48\/i=49\/i=50\/i=51\/i=52\/i=53\/i=54\/i=55\/i=56\/i=57\/i=58\/i=59\/i=60\/i=61\/i=62\/i=63\/i=64\/i=65\/i=66\/i=67\/i=68\/i=69\/i=70\/i=71\/i=72\/i=73\/i=74\/i=75\/i=76\/i=77\/i=78\/i=79\/i=80\/i=81\/i=82\/i=83\/i=84\/i=85\/i=86:=by omega
  clear hi
  rcases hcase with rfl|rfl|rfl|rfl|rfl|rfl|rfl|rfl|rfl|rfl|rfl|rfl|rfl|rfl|rfl|rfl|rfl|rfl|rfl|rfl|rfl|rfl|rfl|rfl|rfl|rfl|rfl|rfl|rfl|rfl|rfl|rfl|rfl|rfl|rfl|rfl|rfl|rfl|rfl|rfl|rfl|rfl|rfl|rfl|rfl|rfl|rfl|rfl|rfl|rfl|rfl|rfl|rfl|rfl|rfl|rfl|rfl|rfl|rfl|rfl|rfl|rfl|rfl|rfl|rfl|rfl|rfl|rfl|rfl|rfl|rfl|rfl|rfl|rfl|rfl|rfl|rfl|rfl|rfl|rfl|rfl|rfl|rfl|rfl|rfl|rfl|rfl
  all_goals (simp only [List.getElem?_toArray,List.getElem?_cons_succ,List.getElem?_cons_zero,Option.some.injEq] at ho;subst ho)
  ·refine Reg.Does.go rfl (Reg.step_k fun K hK=>?_)
   go_simp
   exact hK _ _ ⟨_,rfl,Below.refl _ _,rfl⟩
  ·have q0:a.tmps[5]?.getD undef=.pointer (some ⟨p1,0,none⟩):=Reg.ev_get (hd 0 (by decide))
   refine Reg.Does.go rfl (Reg.step_k fun K hK=>?_)
   go_simp
   exact hK _ _ ⟨_,rfl,Below.refl _ _,rfl⟩
  ·have q0:a.tmps[6]?.getD undef=.slice o0 n0 k0:=Reg.ev_get (hd 1 (by decide))
   refine Reg.Does.go rfl (Reg.step_k fun K hK=>?_)
   go_simp
   exact hK _ _ ⟨_,rfl,Below.refl _ _,rfl⟩
  ·refine Reg.Does.go rfl (Reg.step_k fun K hK=>?_)
   go_simp
   exact hK _ _ ⟨_,rfl,Below.refl _ _,rfl⟩
  ·have q0:a.tmps[8]?.getD undef=.pointer (some ⟨p2,0,none⟩):=Reg.ev_get (hd 3 (by decide))
   refine Reg.Does.go rfl (Reg.step_k fun K hK=>?_)
   go_simp
   exact hK _ _ ⟨_,rfl,Below.refl _ _,rfl⟩
  ·have q0:a.tmps[9]?.getD undef=.slice g0 m0 h0:=Reg.ev_get (hd 4 (by decide))
   refine Reg.Does.go rfl (Reg.step_k fun K hK=>?_)
   go_simp
   exact hK _ _ ⟨_,rfl,Below.refl _ _,rfl⟩
  ·have q0:a.tmps[7]?.getD undef=.int .i64 (n0:Nat):=Reg.ev_get (hd 2 (by decide))
   have q1:a.tmps[10]?.getD undef=.int .i64 (m0:Nat):=Reg.ev_get (hd 5 (by decide))
   refine Reg.Does.go rfl (Reg.step_k fun K hK=>?_)
   go_simp
   exact hK _ _ ⟨_,rfl,Below.refl _ _,by rw [HC1.out,HE1.out];rfl⟩
  ·have q0:a.tmps[11]?.getD undef=.bool C1:=Reg.ev_get (hd 6 (by decide))
   refine Reg.Does.go rfl (Reg.step_k fun K hK=>?_)
   go_simp
   exact hK _ _ ⟨_,rfl,Below.refl _ _,rfl⟩
  ·have qg:a.eval (.tmp 12)=.bool C1:=hd 7 (by decide)
   cases C1
   ·exact Reg.Does.skip rfl rfl rfl qg rfl
   ·refine Reg.Does.wanted rfl rfl rfl qg (Reg.step_k fun K hK=>?_)
    clear qg
    go_simp
    exact hK _ _ ⟨_,rfl,Below.refl _ _,rfl⟩
  ·have qg:a.eval (.tmp 12)=.bool C1:=hd 7 (by decide)
   cases C1
   ·exact Reg.Does.skip rfl rfl rfl qg rfl
   ·refine Reg.Does.wanted rfl rfl rfl qg (Reg.step_k fun K hK=>?_)
    clear qg
    have q0:a.tmps[13]?.getD undef=.pointer (some ⟨p1,1,none⟩):=Reg.ev_get (hd 8 (by decide))
    go_simp
    exact hK _ _ ⟨_,rfl,Below.refl _ _,rfl⟩
  ·have qg:a.eval (.tmp 12)=.bool C1:=hd 7 (by decide)
   cases C1
   ·exact Reg.Does.skip rfl rfl rfl qg rfl
   ·refine Reg.Does.wanted rfl rfl rfl qg (Reg.step_k fun K hK=>?_)
    clear qg
    have q0:a.tmps[14]?.getD undef=.slice o1 n1 k1:=Reg.ev_get (hd 9 (by decide))
    go_simp
    exact hK _ _ ⟨_,rfl,Below.refl _ _,rfl⟩
  ·have qg:a.eval (.tmp 12)=.bool C1:=hd 7 (by decide)
   cases C1
   ·exact Reg.Does.skip rfl rfl rfl qg rfl
   ·refine Reg.Does.wanted rfl rfl rfl qg (Reg.step_k fun K hK=>?_)
    clear qg
    go_simp
    exact hK _ _ ⟨_,rfl,Below.refl _ _,rfl⟩
  ·have qg:a.eval (.tmp 12)=.bool C1:=hd 7 (by decide)
   cases C1
   ·exact Reg.Does.skip rfl rfl rfl qg rfl
   ·refine Reg.Does.wanted rfl rfl rfl qg (Reg.step_k fun K hK=>?_)
    clear qg
    have q0:a.tmps[16]?.getD undef=.pointer (some ⟨p2,1,none⟩):=Reg.ev_get (hd 11 (by decide))
    go_simp
    exact hK _ _ ⟨_,rfl,Below.refl _ _,rfl⟩
  ·have qg:a.eval (.tmp 12)=.bool C1:=hd 7 (by decide)
   cases C1
   ·exact Reg.Does.skip rfl rfl rfl qg rfl
   ·refine Reg.Does.wanted rfl rfl rfl qg (Reg.step_k fun K hK=>?_)
    clear qg
    have q0:a.tmps[17]?.getD undef=.slice g1 m1 h1:=Reg.ev_get (hd 12 (by decide))
    go_simp
    exact hK _ _ ⟨_,rfl,Below.refl _ _,rfl⟩
  ·have qg:a.eval (.tmp 12)=.bool C1:=hd 7 (by decide)
   cases C1
   ·exact Reg.Does.skip rfl rfl rfl qg rfl
   ·refine Reg.Does.wanted rfl rfl rfl qg (Reg.step_k fun K hK=>?_)
    clear qg
    have q0:a.tmps[15]?.getD undef=.int .i64 (n1:Nat):=Reg.ev_get (hd 10 (by decide))
    have q1:a.tmps[18]?.getD undef=.int .i64 (m1:Nat):=Reg.ev_get (hd 13 (by decide))
    go_simp
    exact hK _ _ ⟨_,rfl,Below.refl _ _,by rw [HE2.out];rfl⟩
  ·have qc:a.tmps[12]?.getD undef=.bool C1:=Reg.ev_get (hd 7 (by decide))
   have qe:a.tmps[19]?.getD undef=if C1 then .bool e2 else undef:=Reg.ev_get (hd 14 (by decide))
   refine Reg.Does.go rfl (Reg.step_k fun K hK=>?_)
   have HCN:=HC2
   cases C1
   ·simp only [Bool.false_eq_true,if_false] at qe
    go_simp
    exact hK _ _ ⟨_,rfl,Below.refl _ _,by rw [HCN.out];rfl⟩
   ·simp only [if_true] at qe
    go_simp
    exact hK _ _ ⟨_,rfl,Below.refl _ _,by rw [HCN.out];rfl⟩
  ·have q0:a.tmps[20]?.getD undef=.bool C2:=Reg.ev_get (hd 15 (by decide))
   refine Reg.Does.go rfl (Reg.step_k fun K hK=>?_)
   go_simp
   exact hK _ _ ⟨_,rfl,Below.refl _ _,rfl⟩
  ·have qg:a.eval (.tmp 21)=.bool C2:=hd 16 (by decide)
   cases C2
   ·exact Reg.Does.skip rfl rfl rfl qg rfl
   ·refine Reg.Does.wanted rfl rfl rfl qg (Reg.step_k fun K hK=>?_)
    clear qg
    go_simp
    exact hK _ _ ⟨_,rfl,Below.refl _ _,rfl⟩
  ·have qg:a.eval (.tmp 21)=.bool C2:=hd 16 (by decide)
   cases C2
   ·exact Reg.Does.skip rfl rfl rfl qg rfl
   ·refine Reg.Does.wanted rfl rfl rfl qg (Reg.step_k fun K hK=>?_)
    clear qg
    have q0:a.tmps[22]?.getD undef=.pointer (some ⟨p1,2,none⟩):=Reg.ev_get (hd 17 (by decide))
    go_simp
    exact hK _ _ ⟨_,rfl,Below.refl _ _,rfl⟩
  ·have qg:a.eval (.tmp 21)=.bool C2:=hd 16 (by decide)
   cases C2
   ·exact Reg.Does.skip rfl rfl rfl qg rfl
   ·refine Reg.Does.wanted rfl rfl rfl qg (Reg.step_k fun K hK=>?_)
    clear qg
    have q0:a.tmps[23]?.getD undef=.slice o2 n2 k2:=Reg.ev_get (hd 18 (by decide))
    go_simp
    exact hK _ _ ⟨_,rfl,Below.refl _ _,rfl⟩
  ·have qg:a.eval (.tmp 21)=.bool C2:=hd 16 (by decide)
   cases C2
   ·exact Reg.Does.skip rfl rfl rfl qg rfl
   ·refine Reg.Does.wanted rfl rfl rfl qg (Reg.step_k fun K hK=>?_)
    clear qg
    go_simp
    exact hK _ _ ⟨_,rfl,Below.refl _ _,rfl⟩
  ·have qg:a.eval (.tmp 21)=.bool C2:=hd 16 (by decide)
   cases C2
   ·exact Reg.Does.skip rfl rfl rfl qg rfl
   ·refine Reg.Does.wanted rfl rfl rfl qg (Reg.step_k fun K hK=>?_)
    clear qg
    have q0:a.tmps[25]?.getD undef=.pointer (some ⟨p2,2,none⟩):=Reg.ev_get (hd 20 (by decide))
    go_simp
    exact hK _ _ ⟨_,rfl,Below.refl _ _,rfl⟩
  ·have qg:a.eval (.tmp 21)=.bool C2:=hd 16 (by decide)
   cases C2
   ·exact Reg.Does.skip rfl rfl rfl qg rfl
   ·refine Reg.Does.wanted rfl rfl rfl qg (Reg.step_k fun K hK=>?_)
    clear qg
    have q0:a.tmps[26]?.getD undef=.slice g2 m2 h2:=Reg.ev_get (hd 21 (by decide))
    go_simp
    exact hK _ _ ⟨_,rfl,Below.refl _ _,rfl⟩
  ·have qg:a.eval (.tmp 21)=.bool C2:=hd 16 (by decide)
   cases C2
   ·exact Reg.Does.skip rfl rfl rfl qg rfl
   ·refine Reg.Does.wanted rfl rfl rfl qg (Reg.step_k fun K hK=>?_)
    clear qg
    have q0:a.tmps[24]?.getD undef=.int .i64 (n2:Nat):=Reg.ev_get (hd 19 (by decide))
    have q1:a.tmps[27]?.getD undef=.int .i64 (m2:Nat):=Reg.ev_get (hd 22 (by decide))
    go_simp
    exact hK _ _ ⟨_,rfl,Below.refl _ _,by rw [HE3.out];rfl⟩
  ·have qc:a.tmps[21]?.getD undef=.bool C2:=Reg.ev_get (hd 16 (by decide))
   have qe:a.tmps[28]?.getD undef=if C2 then .bool e3 else undef:=Reg.ev_get (hd 23 (by decide))
   refine Reg.Does.go rfl (Reg.step_k fun K hK=>?_)
   have HCN:=HC3
   cases C2
   ·simp only [Bool.false_eq_true,if_false] at qe
    go_simp
    exact hK _ _ ⟨_,rfl,Below.refl _ _,by rw [HCN.out];rfl⟩
   ·simp only [if_true] at qe
    go_simp
    exact hK _ _ ⟨_,rfl,Below.refl _ _,by rw [HCN.out];rfl⟩
  ·have q0:a.tmps[29]?.getD undef=.bool C3:=Reg.ev_get (hd 24 (by decide))
   refine Reg.Does.go rfl (Reg.step_k fun K hK=>?_)
   go_simp
   exact hK _ _ ⟨_,rfl,Below.refl _ _,rfl⟩
  ·have qg:a.eval (.tmp 30)=.bool C3:=hd 25 (by decide)
   cases C3
   ·exact Reg.Does.skip rfl rfl rfl qg rfl
   ·refine Reg.Does.wanted rfl rfl rfl qg (Reg.step_k fun K hK=>?_)
    clear qg
    go_simp
    exact hK _ _ ⟨_,rfl,Below.refl _ _,rfl⟩
  ·have qg:a.eval (.tmp 30)=.bool C3:=hd 25 (by decide)
   cases C3
   ·exact Reg.Does.skip rfl rfl rfl qg rfl
   ·refine Reg.Does.wanted rfl rfl rfl qg (Reg.step_k fun K hK=>?_)
    clear qg
    have q0:a.tmps[31]?.getD undef=.pointer (some ⟨p1,3,none⟩):=Reg.ev_get (hd 26 (by decide))
    go_simp
    exact hK _ _ ⟨_,rfl,Below.refl _ _,rfl⟩
  ·have qg:a.eval (.tmp 30)=.bool C3:=hd 25 (by decide)
   cases C3
   ·exact Reg.Does.skip rfl rfl rfl qg rfl
   ·refine Reg.Does.wanted rfl rfl rfl qg (Reg.step_k fun K hK=>?_)
    clear qg
    have q0:a.tmps[32]?.getD undef=.slice o3 n3 k3:=Reg.ev_get (hd 27 (by decide))
    go_simp
    exact hK _ _ ⟨_,rfl,Below.refl _ _,rfl⟩
  ·have qg:a.eval (.tmp 30)=.bool C3:=hd 25 (by decide)
   cases C3
   ·exact Reg.Does.skip rfl rfl rfl qg rfl
   ·refine Reg.Does.wanted rfl rfl rfl qg (Reg.step_k fun K hK=>?_)
    clear qg
    go_simp
    exact hK _ _ ⟨_,rfl,Below.refl _ _,rfl⟩
  ·have qg:a.eval (.tmp 30)=.bool C3:=hd 25 (by decide)
   cases C3
   ·exact Reg.Does.skip rfl rfl rfl qg rfl
   ·refine Reg.Does.wanted rfl rfl rfl qg (Reg.step_k fun K hK=>?_)
    clear qg
    have q0:a.tmps[34]?.getD undef=.pointer (some ⟨p2,3,none⟩):=Reg.ev_get (hd 29 (by decide))
    go_simp
    exact hK _ _ ⟨_,rfl,Below.refl _ _,rfl⟩
  ·have qg:a.eval (.tmp 30)=.bool C3:=hd 25 (by decide)
   cases C3
   ·exact Reg.Does.skip rfl rfl rfl qg rfl
   ·refine Reg.Does.wanted rfl rfl rfl qg (Reg.step_k fun K hK=>?_)
    clear qg
    have q0:a.tmps[35]?.getD undef=.slice g3 m3 h3:=Reg.ev_get (hd 30 (by decide))
    go_simp
    exact hK _ _ ⟨_,rfl,Below.refl _ _,rfl⟩
  ·have qg:a.eval (.tmp 30)=.bool C3:=hd 25 (by decide)
   cases C3
   ·exact Reg.Does.skip rfl rfl rfl qg rfl
   ·refine Reg.Does.wanted rfl rfl rfl qg (Reg.step_k fun K hK=>?_)
    clear qg
    have q0:a.tmps[33]?.getD undef=.int .i64 (n3:Nat):=Reg.ev_get (hd 28 (by decide))
    have q1:a.tmps[36]?.getD undef=.int .i64 (m3:Nat):=Reg.ev_get (hd 31 (by decide))
    go_simp
    exact hK _ _ ⟨_,rfl,Below.refl _ _,by rw [HE4.out];rfl⟩
  ·have qc:a.tmps[30]?.getD undef=.bool C3:=Reg.ev_get (hd 25 (by decide))
   have qe:a.tmps[37]?.getD undef=if C3 then .bool e4 else undef:=Reg.ev_get (hd 32 (by decide))
   refine Reg.Does.go rfl (Reg.step_k fun K hK=>?_)
   have HCN:=HC4
   cases C3
   ·simp only [Bool.false_eq_true,if_false] at qe
    go_simp
    exact hK _ _ ⟨_,rfl,Below.refl _ _,by rw [HCN.out];rfl⟩
   ·simp only [if_true] at qe
    go_simp
    exact hK _ _ ⟨_,rfl,Below.refl _ _,by rw [HCN.out];rfl⟩
  ·have q0:a.tmps[38]?.getD undef=.bool C4:=Reg.ev_get (hd 33 (by decide))
   refine Reg.Does.go rfl (Reg.step_k fun K hK=>?_)
   go_simp
   exact hK _ _ ⟨_,rfl,Below.refl _ _,rfl⟩
  ·have qg:a.eval (.tmp 39)=.bool C4:=hd 34 (by decide)
   cases C4
   ·exact Reg.Does.skip rfl rfl rfl qg rfl
   ·refine Reg.Does.wanted rfl rfl rfl qg (Reg.step_k fun K hK=>?_)
    clear qg
    go_simp
    exact hK _ _ ⟨_,rfl,Below.refl _ _,rfl⟩
  ·have qg:a.eval (.tmp 39)=.bool C4:=hd 34 (by decide)
   cases C4
   ·exact Reg.Does.skip rfl rfl rfl qg rfl
   ·refine Reg.Does.wanted rfl rfl rfl qg (Reg.step_k fun K hK=>?_)
    clear qg
    have q0:a.tmps[40]?.getD undef=.pointer (some ⟨p1,4,none⟩):=Reg.ev_get (hd 35 (by decide))
    go_simp
    exact hK _ _ ⟨_,rfl,Below.refl _ _,rfl⟩
  ·have qg:a.eval (.tmp 39)=.bool C4:=hd 34 (by decide)
   cases C4
   ·exact Reg.Does.skip rfl rfl rfl qg rfl
   ·refine Reg.Does.wanted rfl rfl rfl qg (Reg.step_k fun K hK=>?_)
    clear qg
    have q0:a.tmps[41]?.getD undef=.slice o4 n4 k4:=Reg.ev_get (hd 36 (by decide))
    go_simp
    exact hK _ _ ⟨_,rfl,Below.refl _ _,rfl⟩
  ·have qg:a.eval (.tmp 39)=.bool C4:=hd 34 (by decide)
   cases C4
   ·exact Reg.Does.skip rfl rfl rfl qg rfl
   ·refine Reg.Does.wanted rfl rfl rfl qg (Reg.step_k fun K hK=>?_)
    clear qg
    go_simp
    exact hK _ _ ⟨_,rfl,Below.refl _ _,rfl⟩
  ·have qg:a.eval (.tmp 39)=.bool C4:=hd 34 (by decide)
   cases C4
   ·exact Reg.Does.skip rfl rfl rfl qg rfl
   ·refine Reg.Does.wanted rfl rfl rfl qg (Reg.step_k fun K hK=>?_)
    clear qg
    have q0:a.tmps[43]?.getD undef=.pointer (some ⟨p2,4,none⟩):=Reg.ev_get (hd 38 (by decide))
    go_simp
    exact hK _ _ ⟨_,rfl,Below.refl _ _,rfl⟩
  ·have qg:a.eval (.tmp 39)=.bool C4:=hd 34 (by decide)
   cases C4
   ·exact Reg.Does.skip rfl rfl rfl qg rfl
   ·refine Reg.Does.wanted rfl rfl rfl qg (Reg.step_k fun K hK=>?_)
    clear qg
    have q0:a.tmps[44]?.getD undef=.slice g4 m4 h4:=Reg.ev_get (hd 39 (by decide))
    go_simp
    exact hK _ _ ⟨_,rfl,Below.refl _ _,rfl⟩
  ·have qg:a.eval (.tmp 39)=.bool C4:=hd 34 (by decide)
   cases C4
   ·exact Reg.Does.skip rfl rfl rfl qg rfl
   ·refine Reg.Does.wanted rfl rfl rfl qg (Reg.step_k fun K hK=>?_)
    clear qg
    have q0:a.tmps[42]?.getD undef=.int .i64 (n4:Nat):=Reg.ev_get (hd 37 (by decide))
    have q1:a.tmps[45]?.getD undef=.int .i64 (m4:Nat):=Reg.ev_get (hd 40 (by decide))
    go_simp
    exact hK _ _ ⟨_,rfl,Below.refl _ _,by rw [HE5.out];rfl⟩
  ·have qc:a.tmps[39]?.getD undef=.bool C4:=Reg.ev_get (hd 34 (by decide))
   have qe:a.tmps[46]?.getD undef=if C4 then .bool e5 else undef:=Reg.ev_get (hd 41 (by decide))
   refine Reg.Does.go rfl (Reg.step_k fun K hK=>?_)
   have HCN:=HC5
   cases C4
   ·simp only [Bool.false_eq_true,if_false] at qe
    go_simp
    exact hK _ _ ⟨_,rfl,Below.refl _ _,by rw [HCN.out];rfl⟩
   ·simp only [if_true] at qe
    go_simp
    exact hK _ _ ⟨_,rfl,Below.refl _ _,by rw [HCN.out];rfl⟩
  ·have q0:a.tmps[47]?.getD undef=.bool C5:=Reg.ev_get (hd 42 (by decide))
   refine Reg.Does.go rfl (Reg.step_k fun K hK=>?_)
   go_simp
   exact hK _ _ ⟨_,rfl,Below.refl _ _,rfl⟩
  ·have qg:a.eval (.tmp 48)=.bool C5:=hd 43 (by decide)
   cases C5
   ·exact Reg.Does.skip rfl rfl rfl qg rfl
   ·refine Reg.Does.wanted rfl rfl rfl qg (Reg.step_k fun K hK=>?_)
    clear qg
    go_simp
    exact hK _ _ ⟨_,rfl,Below.refl _ _,rfl⟩
  ·have qg:a.eval (.tmp 48)=.bool C5:=hd 43 (by decide)
   cases C5
   ·exact Reg.Does.skip rfl rfl rfl qg rfl
   ·refine Reg.Does.wanted rfl rfl rfl qg (Reg.step_k fun K hK=>?_)
    clear qg
    have q0:a.tmps[49]?.getD undef=.pointer (some ⟨p1,5,none⟩):=Reg.ev_get (hd 44 (by decide))
    go_simp
    exact hK _ _ ⟨_,rfl,Below.refl _ _,rfl⟩
  ·have qg:a.eval (.tmp 48)=.bool C5:=hd 43 (by decide)
   cases C5
   ·exact Reg.Does.skip rfl rfl rfl qg rfl
   ·refine Reg.Does.wanted rfl rfl rfl qg (Reg.step_k fun K hK=>?_)
    clear qg
    have q0:a.tmps[50]?.getD undef=.slice o5 n5 k5:=Reg.ev_get (hd 45 (by decide))
    go_simp
    exact hK _ _ ⟨_,rfl,Below.refl _ _,rfl⟩
  ·have qg:a.eval (.tmp 48)=.bool C5:=hd 43 (by decide)
   cases C5
   ·exact Reg.Does.skip rfl rfl rfl qg rfl
   ·refine Reg.Does.wanted rfl rfl rfl qg (Reg.step_k fun K hK=>?_)
    clear qg
    go_simp
    exact hK _ _ ⟨_,rfl,Below.refl _ _,rfl⟩
  ·have qg:a.eval (.tmp 48)=.bool C5:=hd 43 (by decide)
   cases C5
   ·exact Reg.Does.skip rfl rfl rfl qg rfl
   ·refine Reg.Does.wanted rfl rfl rfl qg (Reg.step_k fun K hK=>?_)
    clear qg
    have q0:a.tmps[52]?.getD undef=.pointer (some ⟨p2,5,none⟩):=Reg.ev_get (hd 47 (by decide))
    go_simp
    exact hK _ _ ⟨_,rfl,Below.refl _ _,rfl⟩
  ·have qg:a.eval (.tmp 48)=.bool C5:=hd 43 (by decide)
   cases C5
   ·exact Reg.Does.skip rfl rfl rfl qg rfl
   ·refine Reg.Does.wanted rfl rfl rfl qg (Reg.step_k fun K hK=>?_)
    clear qg
    have q0:a.tmps[53]?.getD undef=.slice g5 m5 h5:=Reg.ev_get (hd 48 (by decide))
    go_simp
    exact hK _ _ ⟨_,rfl,Below.refl _ _,rfl⟩
  ·have qg:a.eval (.tmp 48)=.bool C5:=hd 43 (by decide)
   cases C5
   ·exact Reg.Does.skip rfl rfl rfl qg rfl
   ·refine Reg.Does.wanted rfl rfl rfl qg (Reg.step_k fun K hK=>?_)
    clear qg
    have q0:a.tmps[51]?.getD undef=.int .i64 (n5:Nat):=Reg.ev_get (hd 46 (by decide))
    have q1:a.tmps[54]?.getD undef=.int .i64 (m5:Nat):=Reg.ev_get (hd 49 (by decide))
    go_simp
    exact hK _ _ ⟨_,rfl,Below.refl _ _,by rw [HE6.out];rfl⟩
  ·have qc:a.tmps[48]?.getD undef=.bool C5:=Reg.ev_get (hd 43 (by decide))
   have qe:a.tmps[55]?.getD undef=if C5 then .bool e6 else undef:=Reg.ev_get (hd 50 (by decide))
   refine Reg.Does.go rfl (Reg.step_k fun K hK=>?_)
   have HCN:=HC6
   cases C5
   ·simp only [Bool.false_eq_true,if_false] at qe
    go_simp
    exact hK _ _ ⟨_,rfl,Below.refl _ _,by rw [HCN.out];rfl⟩
   ·simp only [if_true] at qe
    go_simp
    exact hK _ _ ⟨_,rfl,Below.refl _ _,by rw [HCN.out];rfl⟩
  ·have q0:a.tmps[56]?.getD undef=.bool C6:=Reg.ev_get (hd 51 (by decide))
   refine Reg.Does.go rfl (Reg.step_k fun K hK=>?_)
   go_simp
   exact hK _ _ ⟨_,rfl,Below.refl _ _,rfl⟩
  ·have qg:a.eval (.tmp 57)=.bool C6:=hd 52 (by decide)
   cases C6
   ·exact Reg.Does.skip rfl rfl rfl qg rfl
   ·refine Reg.Does.wanted rfl rfl rfl qg (Reg.step_k fun K hK=>?_)
    clear qg
    go_simp
    exact hK _ _ ⟨_,rfl,Below.refl _ _,rfl⟩
  ·have qg:a.eval (.tmp 57)=.bool C6:=hd 52 (by decide)
   cases C6
   ·exact Reg.Does.skip rfl rfl rfl qg rfl
   ·refine Reg.Does.wanted rfl rfl rfl qg (Reg.step_k fun K hK=>?_)
    clear qg
    have q0:a.tmps[58]?.getD undef=.pointer (some ⟨p1,6,none⟩):=Reg.ev_get (hd 53 (by decide))
    go_simp
    exact hK _ _ ⟨_,rfl,Below.refl _ _,rfl⟩
  ·have qg:a.eval (.tmp 57)=.bool C6:=hd 52 (by decide)
   cases C6
   ·exact Reg.Does.skip rfl rfl rfl qg rfl
   ·refine Reg.Does.wanted rfl rfl rfl qg (Reg.step_k fun K hK=>?_)
    clear qg
    have q0:a.tmps[59]?.getD undef=.slice o6 n6 k6:=Reg.ev_get (hd 54 (by decide))
    go_simp
    exact hK _ _ ⟨_,rfl,Below.refl _ _,rfl⟩
  ·have qg:a.eval (.tmp 57)=.bool C6:=hd 52 (by decide)
   cases C6
   ·exact Reg.Does.skip rfl rfl rfl qg rfl
   ·refine Reg.Does.wanted rfl rfl rfl qg (Reg.step_k fun K hK=>?_)
    clear qg
    go_simp
    exact hK _ _ ⟨_,rfl,Below.refl _ _,rfl⟩
  ·have qg:a.eval (.tmp 57)=.bool C6:=hd 52 (by decide)
   cases C6
   ·exact Reg.Does.skip rfl rfl rfl qg rfl
   ·refine Reg.Does.wanted rfl rfl rfl qg (Reg.step_k fun K hK=>?_)
    clear qg
    have q0:a.tmps[61]?.getD undef=.pointer (some ⟨p2,6,none⟩):=Reg.ev_get (hd 56 (by decide))
    go_simp
    exact hK _ _ ⟨_,rfl,Below.refl _ _,rfl⟩
  ·have qg:a.eval (.tmp 57)=.bool C6:=hd 52 (by decide)
   cases C6
   ·exact Reg.Does.skip rfl rfl rfl qg rfl
   ·refine Reg.Does.wanted rfl rfl rfl qg (Reg.step_k fun K hK=>?_)
    clear qg
    have q0:a.tmps[62]?.getD undef=.slice g6 m6 h6:=Reg.ev_get (hd 57 (by decide))
    go_simp
    exact hK _ _ ⟨_,rfl,Below.refl _ _,rfl⟩
  ·have qg:a.eval (.tmp 57)=.bool C6:=hd 52 (by decide)
   cases C6
   ·exact Reg.Does.skip rfl rfl rfl qg rfl
   ·refine Reg.Does.wanted rfl rfl rfl qg (Reg.step_k fun K hK=>?_)
    clear qg
    have q0:a.tmps[60]?.getD undef=.int .i64 (n6:Nat):=Reg.ev_get (hd 55 (by decide))
    have q1:a.tmps[63]?.getD undef=.int .i64 (m6:Nat):=Reg.ev_get (hd 58 (by decide))
    go_simp
    exact hK _ _ ⟨_,rfl,Below.refl _ _,by rw [HE7.out];rfl⟩
  ·have qc:a.tmps[57]?.getD undef=.bool C6:=Reg.ev_get (hd 52 (by decide))
   have qe:a.tmps[64]?.getD undef=if C6 then .bool e7 else undef:=Reg.ev_get (hd 59 (by decide))
   refine Reg.Does.go rfl (Reg.step_k fun K hK=>?_)
   have HCN:=HC7
   cases C6
   ·simp only [Bool.false_eq_true,if_false] at qe
    go_simp
    exact hK _ _ ⟨_,rfl,Below.refl _ _,by rw [HCN.out];rfl⟩
   ·simp only [if_true] at qe
    go_simp
    exact hK _ _ ⟨_,rfl,Below.refl _ _,by rw [HCN.out];rfl⟩
  ·have q0:a.tmps[65]?.getD undef=.bool C7:=Reg.ev_get (hd 60 (by decide))
   refine Reg.Does.go rfl (Reg.step_k fun K hK=>?_)
   go_simp
   exact hK _ _ ⟨_,rfl,Below.refl _ _,rfl⟩
  ·have qg:a.eval (.tmp 66)=.bool C7:=hd 61 (by decide)
   cases C7
   ·exact Reg.Does.skip rfl rfl rfl qg rfl
   ·refine Reg.Does.wanted rfl rfl rfl qg (Reg.step_k fun K hK=>?_)
    clear qg
    go_simp
    exact hK _ _ ⟨_,rfl,Below.refl _ _,rfl⟩
  ·have qg:a.eval (.tmp 66)=.bool C7:=hd 61 (by decide)
   cases C7
   ·exact Reg.Does.skip rfl rfl rfl qg rfl
   ·refine Reg.Does.wanted rfl rfl rfl qg (Reg.step_k fun K hK=>?_)
    clear qg
    have q0:a.tmps[67]?.getD undef=.pointer (some ⟨p1,7,none⟩):=Reg.ev_get (hd 62 (by decide))
    go_simp
    exact hK _ _ ⟨_,rfl,Below.refl _ _,rfl⟩
  ·have qg:a.eval (.tmp 66)=.bool C7:=hd 61 (by decide)
   cases C7
   ·exact Reg.Does.skip rfl rfl rfl qg rfl
   ·refine Reg.Does.wanted rfl rfl rfl qg (Reg.step_k fun K hK=>?_)
    clear qg
    go_simp
    exact hK _ _ ⟨_,rfl,Below.refl _ _,rfl⟩
  ·have qg:a.eval (.tmp 66)=.bool C7:=hd 61 (by decide)
   cases C7
   ·exact Reg.Does.skip rfl rfl rfl qg rfl
   ·refine Reg.Does.wanted rfl rfl rfl qg (Reg.step_k fun K hK=>?_)
    clear qg
    have q0:a.tmps[69]?.getD undef=.pointer (some ⟨p2,7,none⟩):=Reg.ev_get (hd 64 (by decide))
    go_simp
    exact hK _ _ ⟨_,rfl,Below.refl _ _,rfl⟩
  ·have qg:a.eval (.tmp 66)=.bool C7:=hd 61 (by decide)
   cases C7
   ·exact Reg.Does.skip rfl rfl rfl qg rfl
   ·refine Reg.Does.wanted rfl rfl rfl qg (Reg.step_k fun K hK=>?_)
    clear qg
    have q0:a.tmps[68]?.getD undef=.slice o7 n7 k7:=Reg.ev_get (hd 63 (by decide))
    have q1:a.tmps[70]?.getD undef=.slice g7 m7 h7:=Reg.ev_get (hd 65 (by decide))
    have HKK:=hideR hK
    clear hK
    go_simp
    refine (refKeep _ _ _ _ w ((HMU.out.on hB).start) ((HKU.out.on hB).start)).mono ?_
    rintro e w' ⟨rfl,hw⟩
    exact HKK.out _ _ ⟨_,rfl,by obtain ⟨n,rfl⟩:=hw;exact below_drewN' w n,by rw [HE8.out];rfl⟩
  ·have qc:a.tmps[66]?.getD undef=.bool C7:=Reg.ev_get (hd 61 (by decide))
   have qe:a.tmps[71]?.getD undef=if C7 then .bool e8 else undef:=Reg.ev_get (hd 66 (by decide))
   refine Reg.Does.go rfl (Reg.step_k fun K hK=>?_)
   have HCN:=HC8
   cases C7
   ·simp only [Bool.false_eq_true,if_false] at qe
    go_simp
    exact hK _ _ ⟨_,rfl,Below.refl _ _,by rw [HCN.out];rfl⟩
   ·simp only [if_true] at qe
    go_simp
    exact hK _ _ ⟨_,rfl,Below.refl _ _,by rw [HCN.out];rfl⟩
  ·have q0:a.tmps[72]?.getD undef=.bool C8:=Reg.ev_get (hd 67 (by decide))
   refine Reg.Does.go rfl (Reg.step_k fun K hK=>?_)
   go_simp
   exact hK _ _ ⟨_,rfl,Below.refl _ _,rfl⟩
  ·have qg:a.eval (.tmp 73)=.bool C8:=hd 68 (by decide)
   cases C8
   ·exact Reg.Does.skip rfl rfl rfl qg rfl
   ·refine Reg.Does.wanted rfl rfl rfl qg (Reg.step_k fun K hK=>?_)
    clear qg
    go_simp
    exact hK _ _ ⟨_,rfl,Below.refl _ _,rfl⟩
  ·have qg:a.eval (.tmp 73)=.bool C8:=hd 68 (by decide)
   cases C8
   ·exact Reg.Does.skip rfl rfl rfl qg rfl
   ·refine Reg.Does.wanted rfl rfl rfl qg (Reg.step_k fun K hK=>?_)
    clear qg
    have q0:a.tmps[74]?.getD undef=.pointer (some ⟨p1,8,none⟩):=Reg.ev_get (hd 69 (by decide))
    go_simp
    exact hK _ _ ⟨_,rfl,Below.refl _ _,rfl⟩
  ·have qg:a.eval (.tmp 73)=.bool C8:=hd 68 (by decide)
   cases C8
   ·exact Reg.Does.skip rfl rfl rfl qg rfl
   ·refine Reg.Does.wanted rfl rfl rfl qg (Reg.step_k fun K hK=>?_)
    clear qg
    have q0:a.tmps[75]?.getD undef=.slice o8 n8 k8:=Reg.ev_get (hd 70 (by decide))
    go_simp
    exact hK _ _ ⟨_,rfl,Below.refl _ _,rfl⟩
  ·have qg:a.eval (.tmp 73)=.bool C8:=hd 68 (by decide)
   cases C8
   ·exact Reg.Does.skip rfl rfl rfl qg rfl
   ·refine Reg.Does.wanted rfl rfl rfl qg (Reg.step_k fun K hK=>?_)
    clear qg
    go_simp
    exact hK _ _ ⟨_,rfl,Below.refl _ _,rfl⟩
  ·have qg:a.eval (.tmp 73)=.bool C8:=hd 68 (by decide)
   cases C8
   ·exact Reg.Does.skip rfl rfl rfl qg rfl
   ·refine Reg.Does.wanted rfl rfl rfl qg (Reg.step_k fun K hK=>?_)
    clear qg
    have q0:a.tmps[77]?.getD undef=.pointer (some ⟨p2,8,none⟩):=Reg.ev_get (hd 72 (by decide))
    go_simp
    exact hK _ _ ⟨_,rfl,Below.refl _ _,rfl⟩
  ·have qg:a.eval (.tmp 73)=.bool C8:=hd 68 (by decide)
   cases C8
   ·exact Reg.Does.skip rfl rfl rfl qg rfl
   ·refine Reg.Does.wanted rfl rfl rfl qg (Reg.step_k fun K hK=>?_)
    clear qg
    have q0:a.tmps[78]?.getD undef=.slice g8 m8 h8:=Reg.ev_get (hd 73 (by decide))
    go_simp
    exact hK _ _ ⟨_,rfl,Below.refl _ _,rfl⟩
  ·have qg:a.eval (.tmp 73)=.bool C8:=hd 68 (by decide)
   cases C8
   ·exact Reg.Does.skip rfl rfl rfl qg rfl
   ·refine Reg.Does.wanted rfl rfl rfl qg (Reg.step_k fun K hK=>?_)
    clear qg
    have q0:a.tmps[76]?.getD undef=.int .i64 (n8:Nat):=Reg.ev_get (hd 71 (by decide))
    have q1:a.tmps[79]?.getD undef=.int .i64 (m8:Nat):=Reg.ev_get (hd 74 (by decide))
    go_simp
    exact hK _ _ ⟨_,rfl,Below.refl _ _,by rw [HE9.out];rfl⟩
  ·have qc:a.tmps[73]?.getD undef=.bool C8:=Reg.ev_get (hd 68 (by decide))
   have qe:a.tmps[80]?.getD undef=if C8 then .bool e9 else undef:=Reg.ev_get (hd 75 (by decide))
   refine Reg.Does.go rfl (Reg.step_k fun K hK=>?_)
   have HCN:=HC9
   cases C8
   ·simp only [Bool.false_eq_true,if_false] at qe
    go_simp
    exact hK _ _ ⟨_,rfl,Below.refl _ _,by rw [HCN.out];rfl⟩
   ·simp only [if_true] at qe
    go_simp
    exact hK _ _ ⟨_,rfl,Below.refl _ _,by rw [HCN.out];rfl⟩
  ·have q0:a.tmps[81]?.getD undef=.bool C9:=Reg.ev_get (hd 76 (by decide))
   refine Reg.Does.go rfl (Reg.step_k fun K hK=>?_)
   go_simp
   exact hK _ _ ⟨_,rfl,Below.refl _ _,rfl⟩
  ·have qg:a.eval (.tmp 82)=.bool C9:=hd 77 (by decide)
   cases C9
   ·exact Reg.Does.skip rfl rfl rfl qg rfl
   ·refine Reg.Does.wanted rfl rfl rfl qg (Reg.step_k fun K hK=>?_)
    clear qg
    go_simp
    exact hK _ _ ⟨_,rfl,Below.refl _ _,rfl⟩
  ·have qg:a.eval (.tmp 82)=.bool C9:=hd 77 (by decide)
   cases C9
   ·exact Reg.Does.skip rfl rfl rfl qg rfl
   ·refine Reg.Does.wanted rfl rfl rfl qg (Reg.step_k fun K hK=>?_)
    clear qg
    have q0:a.tmps[83]?.getD undef=.pointer (some ⟨p1,9,none⟩):=Reg.ev_get (hd 78 (by decide))
    go_simp
    exact hK _ _ ⟨_,rfl,Below.refl _ _,rfl⟩
  ·have qg:a.eval (.tmp 82)=.bool C9:=hd 77 (by decide)
   cases C9
   ·exact Reg.Does.skip rfl rfl rfl qg rfl
   ·refine Reg.Does.wanted rfl rfl rfl qg (Reg.step_k fun K hK=>?_)
    clear qg
    have q0:a.tmps[84]?.getD undef=.slice o9 n9 k9:=Reg.ev_get (hd 79 (by decide))
    go_simp
    exact hK _ _ ⟨_,rfl,Below.refl _ _,rfl⟩
  ·have qg:a.eval (.tmp 82)=.bool C9:=hd 77 (by decide)
   cases C9
   ·exact Reg.Does.skip rfl rfl rfl qg rfl
   ·refine Reg.Does.wanted rfl rfl rfl qg (Reg.step_k fun K hK=>?_)
    clear qg
    go_simp
    exact hK _ _ ⟨_,rfl,Below.refl _ _,rfl⟩
  ·have qg:a.eval (.tmp 82)=.bool C9:=hd 77 (by decide)
   cases C9
   ·exact Reg.Does.skip rfl rfl rfl qg rfl
   ·refine Reg.Does.wanted rfl rfl rfl qg (Reg.step_k fun K hK=>?_)
    clear qg
    have q0:a.tmps[86]?.getD undef=.pointer (some ⟨p2,9,none⟩):=Reg.ev_get (hd 81 (by decide))
    go_simp
    exact hK _ _ ⟨_,rfl,Below.refl _ _,rfl⟩
  ·have qg:a.eval (.tmp 82)=.bool C9:=hd 77 (by decide)
   cases C9
   ·exact Reg.Does.skip rfl rfl rfl qg rfl
   ·refine Reg.Does.wanted rfl rfl rfl qg (Reg.step_k fun K hK=>?_)
    clear qg
    have q0:a.tmps[87]?.getD undef=.slice g9 m9 h9:=Reg.ev_get (hd 82 (by decide))
    go_simp
    exact hK _ _ ⟨_,rfl,Below.refl _ _,rfl⟩
  ·have qg:a.eval (.tmp 82)=.bool C9:=hd 77 (by decide)
   cases C9
   ·exact Reg.Does.skip rfl rfl rfl qg rfl
   ·refine Reg.Does.wanted rfl rfl rfl qg (Reg.step_k fun K hK=>?_)
    clear qg
    have q0:a.tmps[85]?.getD undef=.int .i64 (n9:Nat):=Reg.ev_get (hd 80 (by decide))
    have q1:a.tmps[88]?.getD undef=.int .i64 (m9:Nat):=Reg.ev_get (hd 83 (by decide))
    go_simp
    exact hK _ _ ⟨_,rfl,Below.refl _ _,by rw [HE10.out];rfl⟩
  ·have qc:a.tmps[82]?.getD undef=.bool C9:=Reg.ev_get (hd 77 (by decide))
   have qe:a.tmps[89]?.getD undef=if C9 then .bool e10 else undef:=Reg.ev_get (hd 84 (by decide))
   refine Reg.Does.go rfl (Reg.step_k fun K hK=>?_)
   have HCN:=HC10
   cases C9
   ·simp only [Bool.false_eq_true,if_false] at qe
    go_simp
    exact hK _ _ ⟨_,rfl,Below.refl _ _,by rw [HCN.out];rfl⟩
   ·simp only [if_true] at qe
    go_simp
    exact hK _ _ ⟨_,rfl,Below.refl _ _,by rw [HCN.out];rfl⟩
  ·have q0:a.tmps[90]?.getD undef=.bool C10:=Reg.ev_get (hd 85 (by decide))
   refine Reg.Does.go rfl (Reg.step_k fun K hK=>?_)
   go_simp
   exact hK _ _ ⟨_,rfl,Below.refl _ _,rfl⟩
 case htail =>
  intro a w2 hF hB hG
  have gl:a.eval (.tmp 4)=.bool C10:=hG 86 (by omega)
  have HW:=hideR (below_go' HU.out hB)
  rw [List.drop_eq_nil_of_le (by simp)]
  refine wpList_nil ?_
  go_wp2_with fail
  refine bodyPost_ret (v:=.bool C10) ((results_tmp rfl _ _ _).trans (congrArg (fun v=>Result.ok v w2) gl)) hF.defers ⟨rfl,hp1 ▸ HW.out⟩
end Go.Proofs.YtlcpagiljfpbpaaDoor

