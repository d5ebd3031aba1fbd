/- Texts that the claim needs. -/
import Derived.Test.YtlcpagiljfpbpaaDoorQEUn37
import Derived.Test.YtlcpagiljfpbpaaDoorQEUn9
import Derived.Test.YtlcpagiljfpbpaaDoorQEUn30
namespace Go.Proofs.YtlcpagiljfpbpaaDoor
open Go.RowKit Rep Enc Go.Lib
set_option linter.unusedVariables false
namespace Enc
theorem NR_empty:∀(d:Nat) (l:IL d),size d l=0->NR d l
 | 0,_,_=>trivial
 | d+1,l,h=>by
  intro x hx
  have:(show List (Ins (IL d)) from l) = []:=List.length_eq_zero_iff.1 h
  rw [this] at hx;cases hx
theorem NR_on {w:World}:∀(d e:Nat) (v:Value) (l:IL d) (k:IL e),At w d v l->At w e v k->NR e k->NR d l
 | 0,_,_,_,_,_,_,_=>trivial
 | d+1,0,v,l,k,hl,hk,_=>by
  obtain ⟨o,cap,rfl⟩:=hk
  obtain ⟨o',cap',h⟩:=At.len (d+1) _ _ hl
  injection h with _ h2 _
  exact NR_empty (d+1) l h2.symm
 | d+1,e+1,v,l,k,hl,hk,hN=>by
  intro x hx
  have hl':Row 7 (InsAt w (At w d)) v (show List (Ins (IL d)) from l):=hl
  have hk':Row 7 (InsAt w (At w e)) v (show List (Ins (IL e)) from k):=hk
  obtain ⟨i,hi,rfl⟩:=List.getElem_of_mem hx
  obtain ⟨b,off,cap,hv,hc⟩:=Row.some hl' (by omega)
  obtain ⟨o2,cap2,hv2⟩:=Row.len hk'
  rw [hv] at hv2
  injection hv2 with _ hlen _
  obtain ⟨b',off',cap',hv',hc'⟩:=Row.some hk' (by omega)
  rw [hv] at hv'
  injection hv' with ha _ _
  injection ha with ha
  injection ha with hb ho _
  subst hb ho
  obtain ⟨y,hy⟩:∃y,(show List (Ins (IL e)) from k)[i]?=some y:=⟨_,List.getElem?_eq_getElem (by omega)⟩
  have hX:=hc i _ (List.getElem?_eq_getElem hi)
  have hY:=hc' i y hy
  obtain ⟨n1,n2,n3⟩:=hN y (List.mem_of_getElem? hy)
  obtain ⟨v5,c5,a5⟩:=hX.body
  obtain ⟨v6,c6,a6⟩:=hX.els
  obtain ⟨u5,d5,b5⟩:=hY.body
  obtain ⟨u6,d6,b6⟩:=hY.els
  have e5:v5=u5:=by rw [c5] at d5;exact Option.some.inj d5
  have e6:v6=u6:=by rw [c6] at d6;exact Option.some.inj d6
  have en:((show List (Ins (IL d)) from l)[i]).n=y.n:=by
   have h1:=hX.n
   rw [hY.n] at h1
   injection h1 with h1
   injection h1 with _ h1
   exact h1.symm
  refine ⟨by rw [en];exact n1,?_,?_⟩
  ·exact NR_on d e v5 _ y.body a5 (e5 ▸ b5) n2
  ·exact NR_on d e v6 _ y.els a6 (e6 ▸ b6) n3
end Enc
section Of
variable {H:Type} {enc:TypeId × Value->H} {w:World} {base:Nat} {spare:Nat->Bool} {held:Bool}
theorem insN_of {n d:Nat} {cs:List Value} {y:DataW H × List MemPlace} {b o:Nat} (hy:DataW.trod enc Tryd.prog w base spare held n 50 cs=some y) (hc:∀j,j<7->w.cell? ⟨b,o+j,none⟩=cs[j]?)
  (ih:∀m v x,n=m+1->DataW.trod enc Tryd.prog w base spare held m 40 [v]=some x->∃l:IL d,At w d v l/\NR d l):∃z:Ins (IL d),InsAt w (At w d) b o z/\NR1 (NR d) z:=by
 obtain ⟨xs,m,rfl,_,_,hxl,hall⟩:=DataW.trod_struct Tryd.underlying50 hy
 obtain ⟨y0,g0⟩:=field_get hxl hall 0 _ rfl
 obtain ⟨y1,g1⟩:=field_get hxl hall 1 _ rfl
 obtain ⟨y2,g2⟩:=field_get hxl hall 2 _ rfl
 obtain ⟨y3,g3⟩:=field_get hxl hall 3 _ rfl
 obtain ⟨y4,g4⟩:=field_get hxl hall 4 _ rfl
 obtain ⟨y5,g5⟩:=field_get hxl hall 5 _ rfl
 obtain ⟨y6,g6⟩:=field_get hxl hall 6 _ rfl
 obtain ⟨z0,e0,_⟩:=int_field Tryd.underlying3 cInt g0
 obtain ⟨z1,e1,_⟩:=int_field Tryd.underlying3 cInt g1
 obtain ⟨z2,e2,_⟩:=int_field Tryd.underlying3 cInt g2
 obtain ⟨z3,e3,hw0⟩:=int_field Tryd.underlying3 cInt g3
 have hw:-9223372036854775808<=z3/\z3<=9223372036854775807:=by have:=bounds_i64 hw0;omega
 obtain ⟨v4,e4,t4⟩:=slice_field Tryd.underlying28 cInts g4
 obtain ⟨v5,e5,t5⟩:=slice_field Tryd.underlying40 cInstrs g5
 obtain ⟨v6,e6,t6⟩:=slice_field Tryd.underlying40 cInstrs g6
 obtain ⟨l4,h4⟩:=ints_of t4
 obtain ⟨l5,h5,r5⟩:=ih m v5 _ rfl t5
 obtain ⟨l6,h6,r6⟩:=ih m v6 _ rfl t6
 exact ⟨⟨z0,z1,z2,z3,l4,l5,l6⟩,⟨(hc 0 (by omega)).trans e0,(hc 1 (by omega)).trans e1,(hc 2 (by omega)).trans e2,(hc 3 (by omega)).trans e3,⟨v4,(hc 4 (by omega)).trans e4,h4⟩,⟨v5,(hc 5 (by omega)).trans e5,h5⟩,⟨v6,(hc 6 (by omega)).trans e6,h6⟩⟩,hw,r5,r6⟩
theorem atN_of (fuel:Nat):∀(d:Nat) (v:Value) (x:DataW H × List MemPlace),fuel<=d->DataW.trod enc Tryd.prog w base spare held fuel 40 [v]=some x->∃l:IL d,At w d v l/\NR d l:=by
 induction fuel using Nat.strongRecOn with
 | _ fuel ih =>
  intro d v x hd h
  cases d with
  | zero =>
   obtain rfl:fuel=0:=by omega
   simp [DataW.trod] at h
  | succ d =>
   obtain ⟨⟨l,hl⟩,_⟩:=row_of_trod (α:=Ins (IL d)) 7 (by omega) (fun b o z=>InsAt w (At w d) b o z/\NR1 (NR d) z) Tryd.underlying40 cInstr h fun n cs y b o hn hy _ hc =>
    insN_of hy hc fun m' v x hm hx=>ih m' (by omega) d v x (by omega) hx
   exact ⟨l,hl.imp fun _ _ _ _ h=>h.1,row_mem hl⟩
end Of
end Go.Proofs.YtlcpagiljfpbpaaDoor

namespace Go.Proofs.YtlcpagiljfpbpaaDoor
open Go.RowKit Rep Enc Go.Lib
set_option linter.unusedVariables false
def NRM {d:Nat} (m:Mod d):Prop:=(∀x ∈ m.funcs,NR d x.body)/\(∀x ∈ m.globals,NR1 (NR d) x.init)/\(∀x ∈ m.elems,NR1 (NR d) x.offset)/\(∀x ∈ m.datas,NR1 (NR d) x.offset)
section Of
variable {H:Type} {enc:TypeId × Value->H} {w:World} {base:Nat} {spare:Nat->Bool} {held:Bool}
theorem insN_of' {n d:Nat} {cs:List Value} {y:DataW H × List MemPlace} {b o:Nat} (hn:n<=d) (hy:DataW.trod enc Tryd.prog w base spare held n 50 cs=some y) (hc:∀j,j<7->w.cell? ⟨b,o+j,none⟩=cs[j]?):∃z:Ins (IL d),InsAt w (At w d) b o z/\NR1 (NR d) z :=
 insN_of hy hc fun m v x hm hx=>atN_of m d v x (by omega) hx
set_option maxRecDepth 100000 in
theorem modN_of {fuel d:Nat} {v0 v1 v2 v3 v4 v5 v6 v7 v8 v9:Value} {x:DataW H × List MemPlace} (hd:fuel<=d) (h:DataW.trod enc Tryd.prog w base spare held fuel 32 [v0,v1,v2,v3,v4,v5,v6,v7,v8,v9]=some x) :
  ∃m:Mod d,ModAt w d v0 v1 v2 v3 v4 v5 v6 v7 v8 v9 m/\NRM m/\(∀x ∈ m.datas,x.bytes.size<=9223372036854775807)/\(∀x ∈ m.imports,x.mod.size<=9223372036854775807/\x.name.size<=9223372036854775807)/\(∀x ∈ m.exports,x.name.size<=9223372036854775807) /\
   (∀n c,v3=.slice none n c->c=0)/\(∀n c,v4=.slice none n c->c=0):=by
 obtain ⟨xs,m,rfl,_,_,hxl,hall⟩:=DataW.trod_struct Tryd.underlying32 h
 obtain ⟨y0,g0⟩:=field_get hxl hall 0 _ rfl
 obtain ⟨u0,e0,t0⟩:=slice_field Tryd.underlying22 (by kernel_rfl) g0
 obtain rfl:v0=u0:=by simpa using e0
 obtain ⟨y1,g1⟩:=field_get hxl hall 1 _ rfl
 obtain ⟨u1,e1,t1⟩:=slice_field Tryd.underlying23 (by kernel_rfl) g1
 obtain rfl:v1=u1:=by simpa using e1
 obtain ⟨y2,g2⟩:=field_get hxl hall 2 _ rfl
 obtain ⟨u2,e2,t2⟩:=slice_field Tryd.underlying24 (by kernel_rfl) g2
 obtain rfl:v2=u2:=by simpa using e2
 obtain ⟨y3,g3⟩:=field_get hxl hall 3 _ rfl
 obtain ⟨u3,e3,t3⟩:=slice_field Tryd.underlying25 (by kernel_rfl) g3
 obtain rfl:v3=u3:=by simpa using e3
 obtain ⟨y4,g4⟩:=field_get hxl hall 4 _ rfl
 obtain ⟨u4,e4,t4⟩:=slice_field Tryd.underlying25 (by kernel_rfl) g4
 obtain rfl:v4=u4:=by simpa using e4
 obtain ⟨y5,g5⟩:=field_get hxl hall 5 _ rfl
 obtain ⟨u5,e5,t5⟩:=slice_field Tryd.underlying26 (by kernel_rfl) g5
 obtain rfl:v5=u5:=by simpa using e5
 obtain ⟨y6,g6⟩:=field_get hxl hall 6 _ rfl
 obtain ⟨u6,e6,t6⟩:=slice_field Tryd.underlying27 (by kernel_rfl) g6
 obtain rfl:v6=u6:=by simpa using e6
 obtain ⟨y7,g7⟩:=field_get hxl hall 7 _ rfl
 obtain ⟨u7,e7,t7⟩:=slice_field Tryd.underlying28 (by kernel_rfl) g7
 obtain rfl:v7=u7:=by simpa using e7
 obtain ⟨y8,g8⟩:=field_get hxl hall 8 _ rfl
 obtain ⟨u8,e8,t8⟩:=slice_field Tryd.underlying29 (by kernel_rfl) g8
 obtain rfl:v8=u8:=by simpa using e8
 obtain ⟨y9,g9⟩:=field_get hxl hall 9 _ rfl
 obtain ⟨u9,e9,t9⟩:=slice_field Tryd.underlying30 (by kernel_rfl) g9
 obtain rfl:v9=u9:=by simpa using e9
 obtain ⟨⟨l0,h0⟩,_⟩:=row_of_trod (α:=FT) 2 (by omega) (FTAt w) Tryd.underlying22 cFT t0 fun n cs y b o hn hy _ hc=>by
  obtain ⟨xs,k,rfl,_,_,hxl,hall⟩:=DataW.trod_struct Tryd.underlying48 hy
  obtain ⟨y0,g0⟩:=field_get hxl hall 0 _ rfl
  obtain ⟨y1,g1⟩:=field_get hxl hall 1 _ rfl
  obtain ⟨a0,e0,s0⟩:=slice_field Tryd.underlying28 cInts g0
  obtain ⟨a1,e1,s1⟩:=slice_field Tryd.underlying28 cInts g1
  obtain ⟨l0,i0⟩:=ints_of s0
  obtain ⟨l1,i1⟩:=ints_of s1
  exact ⟨⟨l0,l1⟩,⟨a0,(hc 0 (by omega)).trans e0,i0⟩,⟨a1,(hc 1 (by omega)).trans e1,i1⟩⟩
 obtain ⟨⟨l1,h1⟩,_⟩:=row_of_trod (α:=Imp) 3 (by omega) (fun b o x=>ImpAt w b o x/\(x.mod.size<=9223372036854775807/\x.name.size<=9223372036854775807)) Tryd.underlying23 cImp t1 fun n cs y b o hn hy _ hc=>by
  obtain ⟨xs,k,rfl,_,_,hxl,hall⟩:=DataW.trod_struct Tryd.underlying71 hy
  obtain ⟨y0,g0⟩:=field_get hxl hall 0 _ rfl
  obtain ⟨y1,g1⟩:=field_get hxl hall 1 _ rfl
  obtain ⟨y2,g2⟩:=field_get hxl hall 2 _ rfl
  obtain ⟨a0,e0,s0⟩:=str_field Tryd.underlying9 cStr g0
  obtain ⟨a1,e1,s1⟩:=str_field Tryd.underlying9 cStr g1
  obtain ⟨a2,e2,_⟩:=int_field Tryd.underlying3 cInt g2
  exact ⟨⟨a0,a1,a2⟩,⟨(hc 0 (by omega)).trans e0,(hc 1 (by omega)).trans e1,(hc 2 (by omega)).trans e2⟩,s0,s1⟩
 obtain ⟨⟨l2,h2⟩,_⟩:=row_of_trod (α:=Fun d) 3 (by omega) (fun b o x=>FunAt w d b o x/\NR d x.body) Tryd.underlying24 cFun t2 fun n cs y b o hn hy _ hc=>by
  obtain ⟨xs,k,rfl,_,_,hxl,hall⟩:=DataW.trod_struct Tryd.underlying42 hy
  obtain ⟨y0,g0⟩:=field_get hxl hall 0 _ rfl
  obtain ⟨y1,g1⟩:=field_get hxl hall 1 _ rfl
  obtain ⟨y2,g2⟩:=field_get hxl hall 2 _ rfl
  obtain ⟨a0,e0,_⟩:=int_field Tryd.underlying3 cInt g0
  obtain ⟨a1,e1,s1⟩:=slice_field Tryd.underlying28 cInts g1
  obtain ⟨a2,e2,s2⟩:=slice_field Tryd.underlying40 cInstrs g2
  obtain ⟨i1,j1⟩:=ints_of s1
  obtain ⟨i2,j2,r2⟩:=atN_of _ d _ _ (by omega) s2
  exact ⟨⟨a0,i1,i2⟩,⟨(hc 0 (by omega)).trans e0,⟨a1,(hc 1 (by omega)).trans e1,j1⟩,⟨a2,(hc 2 (by omega)).trans e2,j2⟩⟩,r2⟩
 have hlim:∀ {n:Nat} {cs:List Value} {y:DataW H × List MemPlace} {b o:Nat},DataW.trod enc Tryd.prog w base spare held n 73 cs=some y->(∀j,j<3->w.cell? ⟨b,o+j,none⟩=cs[j]?)->∃z,LimAt w b o z:=fun {n cs y b o} hy hc=>by
  obtain ⟨xs,k,rfl,_,_,hxl,hall⟩:=DataW.trod_struct Tryd.underlying73 hy
  obtain ⟨y0,g0⟩:=field_get hxl hall 0 _ rfl
  obtain ⟨y1,g1⟩:=field_get hxl hall 1 _ rfl
  obtain ⟨y2,g2⟩:=field_get hxl hall 2 _ rfl
  obtain ⟨a0,e0,_⟩:=int_field Tryd.underlying3 cInt g0
  obtain ⟨a1,e1,_⟩:=int_field Tryd.underlying3 cInt g1
  obtain ⟨a2,e2⟩:=bool_field Tryd.underlying4 cBool g2
  exact ⟨⟨a0,a1,a2⟩,(hc 0 (by omega)).trans e0,(hc 1 (by omega)).trans e1,(hc 2 (by omega)).trans e2⟩
 obtain ⟨⟨l3,h3⟩,z3⟩:=row_of_trod (α:=Lim) 3 (by omega) (LimAt w) Tryd.underlying25 cLim t3 fun n cs y b o _ hy _ hc=>hlim hy hc
 obtain ⟨⟨l4,h4⟩,z4⟩:=row_of_trod (α:=Lim) 3 (by omega) (LimAt w) Tryd.underlying25 cLim t4 fun n cs y b o _ hy _ hc=>hlim hy hc
 obtain ⟨⟨l5,h5⟩,_⟩:=row_of_trod (α:=Glo d) 9 (by omega) (fun b o x=>GloAt w d b o x/\NR1 (NR d) x.init) Tryd.underlying26 cGlo t5 fun n cs y b o hn hy hl hc=>by
  obtain ⟨xs,k,rfl,_,_,hxl,hall⟩:=DataW.trod_struct Tryd.underlying56 hy
  obtain ⟨y0,g0⟩:=field_get hxl hall 0 _ rfl
  obtain ⟨y1,g1⟩:=field_get hxl hall 1 _ rfl
  obtain ⟨y2,g2⟩:=field_get hxl hall 2 _ rfl
  obtain ⟨a0,e0,_⟩:=int_field Tryd.underlying3 cInt g0
  obtain ⟨a1,e1⟩:=bool_field Tryd.underlying4 cBool g1
  have g2:DataW.trod enc Tryd.prog w base spare held k 50 ((cs.drop 2).take (Tryd.prog.cellsOf 50))=some y2:=g2
  rw [cInstr] at g2
  obtain ⟨a2,i2,r2⟩:=insN_of' (d:=d) (b:=b) (o:=o+2) (by omega) g2 fun j hj=>by
   rw [List.getElem?_take_of_lt hj,List.getElem?_drop,Nat.add_assoc]
   exact hc (2+j) (by omega)
  exact ⟨⟨a0,a1,a2⟩,⟨(hc 0 (by omega)).trans e0,(hc 1 (by omega)).trans e1,i2⟩,r2⟩
 obtain ⟨⟨l6,h6⟩,_⟩:=row_of_trod (α:=Exp) 3 (by omega) (fun b o x=>ExpAt w b o x/\x.name.size<=9223372036854775807) Tryd.underlying27 cExp t6 fun n cs y b o hn hy _ hc=>by
  obtain ⟨xs,k,rfl,_,_,hxl,hall⟩:=DataW.trod_struct Tryd.underlying76 hy
  obtain ⟨y0,g0⟩:=field_get hxl hall 0 _ rfl
  obtain ⟨y1,g1⟩:=field_get hxl hall 1 _ rfl
  obtain ⟨y2,g2⟩:=field_get hxl hall 2 _ rfl
  obtain ⟨a0,e0,s0⟩:=str_field Tryd.underlying9 cStr g0
  obtain ⟨a1,e1,_⟩:=int_field Tryd.underlying3 cInt g1
  obtain ⟨a2,e2,_⟩:=int_field Tryd.underlying3 cInt g2
  exact ⟨⟨a0,a1,a2⟩,⟨(hc 0 (by omega)).trans e0,(hc 1 (by omega)).trans e1,(hc 2 (by omega)).trans e2⟩,s0⟩
 obtain ⟨l7,h7⟩:=ints_of t7
 obtain ⟨⟨l8,h8⟩,_⟩:=row_of_trod (α:=Elm d) 8 (by omega) (fun b o x=>ElmAt w d b o x/\NR1 (NR d) x.offset) Tryd.underlying29 cElm t8 fun n cs y b o hn hy hl hc=>by
  obtain ⟨xs,k,rfl,_,_,hxl,hall⟩:=DataW.trod_struct Tryd.underlying52 hy
  obtain ⟨y0,g0⟩:=field_get hxl hall 0 _ rfl
  obtain ⟨y1,g1⟩:=field_get hxl hall 1 _ rfl
  have g0:DataW.trod enc Tryd.prog w base spare held k 50 ((cs.drop 0).take (Tryd.prog.cellsOf 50))=some y0:=g0
  rw [cInstr] at g0
  obtain ⟨a0,i0,r0⟩:=insN_of' (d:=d) (b:=b) (o:=o) (by omega) g0 fun j hj=>by
   rw [List.getElem?_take_of_lt hj,List.getElem?_drop,Nat.zero_add]
   exact hc j (by omega)
  obtain ⟨a1,e1,s1⟩:=slice_field Tryd.underlying28 cInts g1
  obtain ⟨i1,j1⟩:=ints_of s1
  exact ⟨⟨a0,i1⟩,⟨i0,⟨a1,(hc 7 (by omega)).trans e1,j1⟩⟩,r0⟩
 obtain ⟨⟨l9,h9⟩,_⟩:=row_of_trod (α:=Dat d) 8 (by omega) (fun b o x=>DatAt w d b o x/\(NR1 (NR d) x.offset/\x.bytes.size<=9223372036854775807)) Tryd.underlying30 cDat t9 fun n cs y b o hn hy hl hc=>by
  obtain ⟨xs,k,rfl,_,_,hxl,hall⟩:=DataW.trod_struct Tryd.underlying54 hy
  obtain ⟨y0,g0⟩:=field_get hxl hall 0 _ rfl
  obtain ⟨y1,g1⟩:=field_get hxl hall 1 _ rfl
  have g0:DataW.trod enc Tryd.prog w base spare held k 50 ((cs.drop 0).take (Tryd.prog.cellsOf 50))=some y0:=g0
  rw [cInstr] at g0
  obtain ⟨a0,i0,r0⟩:=insN_of' (d:=d) (b:=b) (o:=o) (by omega) g0 fun j hj=>by
   rw [List.getElem?_take_of_lt hj,List.getElem?_drop,Nat.zero_add]
   exact hc j (by omega)
  obtain ⟨a1,e1,s1⟩:=str_field Tryd.underlying9 cStr g1
  exact ⟨⟨a0,a1⟩,⟨i0,(hc 7 (by omega)).trans e1⟩,r0,s1⟩
 exact ⟨⟨l0,l1,l2,l3,l4,l5,l6,l7,l8,l9⟩,⟨h0,h1.imp fun _ _ _ _ h=>h.1,h2.imp fun _ _ _ _ h=>h.1,h3,h4,h5.imp fun _ _ _ _ h=>h.1,h6.imp fun _ _ _ _ h=>h.1,h7,h8.imp fun _ _ _ _ h=>h.1,h9.imp fun _ _ _ _ h=>h.1⟩,⟨row_mem h2,row_mem h5,row_mem h8,fun x hx=>(row_mem h9 x hx).1⟩,fun x hx=>(row_mem h9 x hx).2,row_mem h1,row_mem h6,z3,z4⟩
end Of
end Go.Proofs.YtlcpagiljfpbpaaDoor

namespace Go.Proofs.YtlcpagiljfpbpaaDoor
open Go.RowKit Rep Enc Go.Lib
set_option linter.unusedVariables false
namespace Enc
theorem Rg_empty:∀(d:Nat) (l:IL d),size d l=0->Rg d l
 | 0,_,_=>trivial
 | d+1,l,h=>by
  intro x hx
  have:(show List (Ins (IL d)) from l) = []:=List.length_eq_zero_iff.1 h
  rw [this] at hx;cases hx
theorem bytes_empty:∀(d:Nat) (l:IL d),size d l=0->(bytesI d l).length=0
 | 0,_,_=>rfl
 | d+1,l,h=>by
  have e:(show List (Ins (IL d)) from l) = []:=List.length_eq_zero_iff.1 h
  show (insL (bytesI d) (size d) (show List (Ins (IL d)) from l)).length=0
  rw [e];rfl
theorem bare_iff {a b n:Int} {nl nb ne:Nat} (h:bare a b n nl nb ne=true):nl=0/\nb=0/\ne=0:=by
 have:=of_decide_eq_true h;exact this.2.2.2
theorem cst_rg {d:Nat} {x:Ins (IL d)} (h:cstOk x=true) (hN:NR1 (NR d) x):Rg1 (Rg d) x/\(insB (bytesI d) (size d) x).length<=100000100:=by
 unfold cstOk at h
 rw [Bool.and_eq_true] at h
 obtain ⟨h1,h2⟩:=h
 have hf:form x.op=9\/(form x.op=4\/form x.op=6\/form x.op=7):=by
  unfold cst at h1
  rw [Bool.or_eq_true,Bool.or_eq_true] at h1
  rcases h1 with (h1|h1)|h1
  ·left;rw [eq_of_beq h1];decide
  ·left;rw [eq_of_beq h1];decide
  ·right;rw [eq_of_beq h1];decide
 have hok:okF (form x.op) x.op x.a x.b x.n x.labels (size d x.body) (size d x.els)=true:=h2
 have hz:x.labels.length=0/\size d x.body=0/\size d x.els=0:=by
  have hok':=hok
  unfold okF at hok'
  rcases hf with hf|hf
  ·rw [hf] at hok'
   rw [if_neg (by omega),if_neg (by omega),if_neg (by omega),if_neg (by omega),if_neg (by omega),if_neg (by omega),if_pos rfl,Bool.and_eq_true] at hok'
   exact bare_iff hok'.2
  ·rw [if_neg (by omega),if_neg (by omega),if_neg (by omega),if_pos hf,Bool.and_eq_true] at hok'
   exact bare_iff hok'.2
 obtain ⟨z1,z2,z3⟩:=hz
 have R:Rg1 (Rg d) x:=rg1_of hok (by omega) hN.1 (Rg_empty d _ z2) (Rg_empty d _ z3)
 have hl:=insB_len (rec:=bytesI d) (sz:=size d) R
 have e1:=bytes_empty d _ z2
 have e2:=bytes_empty d _ z3
 exact ⟨R,by omega⟩
theorem few_iff {n:Nat} (h:few n=true):n<=4096:=by
 have:=of_decide_eq_true (p:=((n:Int)<=4096)) h;omega
theorem room_le {d:Nat}:∀(r:Nat) (l:List (Dat d)),room r l=true->∀x ∈ l,x.bytes.size<=r
 | _,[],_,x,hx=>by cases hx
 | r,y :: t,h,x,hx=>by
  have h':(decide (y.bytes.size<=r) && room (r-y.bytes.size) t)=true:=h
  rw [Bool.and_eq_true] at h'
  have h1:=of_decide_eq_true h'.1
  rcases List.mem_cons.1 hx with rfl|hx
  ·exact h1
  ·have:=room_le _ t h'.2 x hx;omega
theorem goF_all {d:Nat} {step:Unit->Sn->Nat->Option Unit}:∀(l:List (Fun d)),goF step d l ()=some ()->∀x ∈ l,goI step d x.body 0 ()=some ()
 | [],_,x,hx=>by cases hx
 | y :: r,h,x,hx=>by
  have h':((goI step d y.body 0 ()).bind fun s1=>goF step d r s1)=some ():=h
  obtain ⟨s1,e1,h1⟩:=Option.bind_eq_some_iff.1 h'
  rcases List.mem_cons.1 hx with rfl|hx
  ·exact e1
  ·exact goF_all r h1 x hx
def totF {d:Nat}:List (Fun d)->Nat
 | []=>0
 | f :: r=>tot d f.body+totF r
theorem goF_tot {d:Nat}:∀(l:List (Fun d)) (c c':Nat),c<=65536->goF stepCount d l c=some c'->c'=c+totF l/\c'<=65536
 | [],c,c',hc,h=>by injection h with h;exact ⟨by show c'=c+0;omega,by omega⟩
 | y :: r,c,c',hc,h=>by
  have h':((goI stepCount d y.body 0 c).bind fun s1=>goF stepCount d r s1)=some c':=h
  obtain ⟨s1,e1,h1⟩:=Option.bind_eq_some_iff.1 h'
  have t1:=goI_tot d _ _ _ _ e1
  have t2:=goI_count_le d _ _ _ _ hc e1
  have t3:=goF_tot r s1 c' t2 h1
  exact ⟨by show c'=c+(tot d y.body+totF r);omega,t3.2⟩
theorem flat_leg {α:Type} {f:α->List Int} (k:Nat):∀(l:List α),(∀x ∈ l,(f x).length<=k)->(l.flatMap f).length<=l.length*k
 | [],_=>by simp
 | x :: r,h=>by
  rw [List.flatMap_cons,List.length_append,List.length_cons,Nat.add_mul]
  have h1:=h x (List.mem_cons_self ..)
  have h2:=flat_leg k r fun y hy=>h y (List.mem_cons_of_mem _ hy)
  omega
theorem uB_nat (n:Nat) (h:n<=18446744073709551615):(Leb.uB (n:Int)).length<=10:=Leb.uB_ten (by omega) (by omega)
theorem uB_ix {n:Int} (h:0<=n/\n<=4294967295):(Leb.uB n).length<=10:=Leb.uB_ten h.1 (by omega)
theorem sec_le (id:Int) (n:Nat) (b:List Int) (k:Nat) (h:b.length<=k) (hk:k<=18446744073709551615):(secB id n b).length<=k+11:=by
 unfold secB sizB
 have:=uB_nat b.length (by omega)
 split
 ·simp
 ·simp only [List.length_append,List.length_cons,List.length_nil];omega
theorem lis_le {α:Type} (f:α->List Int) (l:List α) (n k:Nat) (hn:l.length<=n) (hn2:n<=18446744073709551615) (h:∀x ∈ l,(f x).length<=k):(lisB f l).length<=10+n*k:=by
 unfold lisB
 have h1:=uB_nat l.length (by omega)
 have h2:=flat_leg k l h
 have h3:l.length*k<=n*k:=Nat.mul_le_mul_right _ hn
 rw [List.length_append];omega
theorem tex_le (s:ByteArray) (n:Nat) (h:s.size<=n) (hn:n<=18446744073709551615):(texB s).length<=10+n:=by
 unfold texB
 have h1:=uB_nat s.size (by omega)
 rw [List.length_append,nums_len];omega
theorem idxB_le (l:List Int) (n:Nat) (h:l.length<=n) (hn:n<=18446744073709551615) (hi:∀y ∈ l,0<=y/\y<=4294967295):(idxB l).length<=10+n*10:=by
 unfold idxB
 have h1:=uB_nat l.length (by omega)
 have h2:=flat_leg (f:=Leb.uB) 10 l fun y hy=>uB_ix (hi y hy)
 rw [List.length_append];omega
theorem typB_le (l:List Int) (n:Nat) (h:l.length<=n) (hn:n<=18446744073709551615):(typB l).length<=10+n:=by
 unfold typB
 have h1:=uB_nat l.length (by omega)
 have h2:=flat_leg (f:=fun x:Int=>[x%256]) 1 l fun y hy=>by simp
 rw [List.length_append];omega
theorem lim_le (x:Lim) (h1:0<=x.min/\x.min<=4294967295) (h2:0<=x.max/\x.max<=4294967295):(limB x).length<=21:=by
 unfold limB
 have a1:=uB_ix h1
 have a2:=uB_ix h2
 have a3:(if x.has then Leb.uB x.max else []:List Int).length<=10:=by
  split
  ·exact a2
  ·simp
 simp only [List.length_append,List.length_cons,List.length_nil];omega
theorem loc_le (l:List Int) (n:Nat) (h:l.length<=n) (hn:n<=1000000):(locB l).length<=10+n*11:=by
 unfold locB
 obtain ⟨b1,b2⟩:=rn_bound l
 have h1:=uB_nat (rn l).length (by omega)
 have h2:=flat_leg (f:=fun x:Int × Int=>Leb.uB x.1++[x.2%256]) 11 (rn l) fun y hy=>by
  have:=b2 y hy
  have h3:=Leb.uB_ten (n:=y.1) (by omega) (by omega)
  rw [List.length_append];simp only [List.length_cons,List.length_nil];omega
 rw [List.length_append];omega
theorem codes_le {d:Nat}:∀(l:List (Fun d)),(∀x ∈ l,Rg d x.body/\x.locals.length<=256)->totF l<=65536->(l.flatMap fun x=>sizB (codB x)).length<=l.length*3000+totF l*100000100
 | [],_,_=>by simp
 | x :: r,h,ht=>by
  have ht':tot d x.body+totF r<=65536:=ht
  have h1:=h x (List.mem_cons_self ..)
  have h2:=codes_le r (fun y hy=>h y (List.mem_cons_of_mem _ hy)) (by omega)
  have h3:=bytesI_len d x.body h1.1
  have h4:=loc_le x.locals 256 h1.2 (by omega)
  have h5:(codB x).length<=2900+tot d x.body*100000100:=by
   unfold codB
   simp only [List.length_append,List.length_cons,List.length_nil];omega
  have h6:=uB_nat (codB x).length (by omega)
  have h7:(sizB (codB x)).length<=2910+tot d x.body*100000100:=by
   unfold sizB;rw [List.length_append];omega
  rw [List.flatMap_cons,List.length_append,List.length_cons]
  show _<=_+(tot d x.body+totF r)*100000100
  omega
theorem short_of {d:Nat} {m:Mod d} (hT:∀x ∈ m.types,x.params.length<=4096/\x.results.length<=4096) (hI:∀x ∈ m.imports,x.mod.size<=64/\x.name.size<=64/\0<=x.type/\x.type<=4294967295) (hF:∀x ∈ m.funcs,(0<=x.type/\x.type<=4294967295)/\Rg d x.body/\x.locals.length<=256)
  (hB:∀x ∈ m.tables,(0<=x.min/\x.min<=4294967295)/\0<=x.max/\x.max<=4294967295) (hM:∀x ∈ m.mems,(0<=x.min/\x.min<=4294967295)/\0<=x.max/\x.max<=4294967295) (hG:∀x ∈ m.globals,(insB (bytesI d) (size d) x.init).length<=100000100)
  (hX:∀x ∈ m.exports,x.name.size<=64/\0<=x.index/\x.index<=4294967295) (hS:∀x ∈ m.start,0<=x/\x<=4294967295) (hE:∀x ∈ m.elems,(insB (bytesI d) (size d) x.offset).length<=100000100/\(∀y ∈ x.funcs,0<=y/\y<=4294967295)/\x.funcs.length<=4096)
  (hD:∀x ∈ m.datas,(insB (bytesI d) (size d) x.offset).length<=100000100/\x.bytes.size<=262144) (ht:totF m.funcs<=65536)
  (n0:m.types.length<=4096) (n1:m.imports.length<=4096) (n2:m.funcs.length<=4096) (n3:m.tables.length<=4096) (n4:m.mems.length<=4096) (n5:m.globals.length<=4096) (n6:m.exports.length<=4096) (n7:m.start.length<=4096) (n8:m.elems.length<=4096) (n9:m.datas.length<=4096):(modB m).length<=38000000000000:=by
 have s0:=sec_le 1 m.types.length _ _ (lis_le ftB m.types 4096 9000 n0 (by omega) fun x hx=>by
  have h:=hT x hx
  have a1:=typB_le x.params 4096 h.1 (by omega)
  have a2:=typB_le x.results 4096 h.2 (by omega)
  unfold ftB
  simp only [List.length_append,List.length_cons,List.length_nil];omega) (by omega)
 have s1:=sec_le 2 m.imports.length _ _ (lis_le impB m.imports 4096 9000 n1 (by omega) fun x hx=>by
  have h:=hI x hx
  have a1:=tex_le x.mod 64 h.1 (by omega)
  have a2:=tex_le x.name 64 h.2.1 (by omega)
  have a3:=uB_ix h.2.2
  unfold impB
  simp only [List.length_append,List.length_cons,List.length_nil];omega) (by omega)
 have s2:=sec_le 3 m.funcs.length _ _ (lis_le (fun x:Fun d=>Leb.uB x.type) m.funcs 4096 10 n2 (by omega) fun x hx=>uB_ix (hF x hx).1) (by omega)
 have s3:=sec_le 4 m.tables.length _ _ (lis_le (fun x:Lim=>[112]++limB x) m.tables 4096 30 n3 (by omega) fun x hx=>by
  have a:=lim_le x (hB x hx).1 (hB x hx).2
  simp only [List.length_append,List.length_cons,List.length_nil];omega) (by omega)
 have s4:=sec_le 5 m.mems.length _ _ (lis_le limB m.mems 4096 21 n4 (by omega) fun x hx=>lim_le x (hM x hx).1 (hM x hx).2) (by omega)
 have s5:=sec_le 6 m.globals.length _ _ (lis_le gloB m.globals 4096 100000200 n5 (by omega) fun x hx=>by
  have h:=hG x hx
  unfold gloB
  simp only [List.length_append,List.length_cons,List.length_nil];omega) (by omega)
 have s6:=sec_le 7 m.exports.length _ _ (lis_le expB m.exports 4096 9000 n6 (by omega) fun x hx=>by
  have h:=hX x hx
  have a1:=tex_le x.name 64 h.1 (by omega)
  have a2:=uB_ix h.2
  unfold expB
  simp only [List.length_append,List.length_cons,List.length_nil];omega) (by omega)
 have s7:=sec_le 8 m.start.length (m.start.flatMap Leb.uB) 50000 (by
  have a:=flat_leg (f:=Leb.uB) 10 m.start fun x hx=>uB_ix (hS x hx)
  omega) (by omega)
 have s8:=sec_le 9 m.elems.length _ _ (lis_le elmB m.elems 4096 100100000 n8 (by omega) fun x hx=>by
  have h:=hE x hx
  have a1:=idxB_le x.funcs 4096 h.2.2 (by omega) h.2.1
  have a2:=h.1
  unfold elmB
  simp only [List.length_append,List.length_cons,List.length_nil];omega) (by omega)
 have s9:=sec_le 10 m.funcs.length (lisB (fun x:Fun d=>sizB (codB x)) m.funcs) 7000000000000 (by
  have a:=codes_le m.funcs (fun x hx=>(hF x hx).2) ht
  have b:=uB_nat m.funcs.length (by omega)
  unfold lisB
  rw [List.length_append]
  omega) (by omega)
 have s10:=sec_le 11 m.datas.length _ _ (lis_le datB m.datas 4096 101000000 n9 (by omega) fun x hx=>by
  have h:=hD x hx
  have a1:=tex_le x.bytes 262144 h.2 (by omega)
  have a2:=h.1
  unfold datB
  simp only [List.length_append,List.length_cons,List.length_nil];omega) (by omega)
 unfold modB
 simp only [List.length_append,List.length_cons,List.length_nil]
 omega
theorem wr_of {d:Nat} {m:Mod d} (h:chk m=0) (hN:NRM m):Wr m:=by
 obtain ⟨hf,⟨c,hc⟩,hL,hs,hF⟩:=chk_zero h
 obtain ⟨N1,N2,N3,N4⟩:=hN
 have ht:=(goF_tot m.funcs 0 c (by omega) hc)
 unfold fewM at hf
 simp only [Bool.and_eq_true,List.all_cons,List.all_nil] at hf
 unfold shM at hs
 simp only [Bool.and_eq_true] at hs
 obtain ⟨⟨f0,f1,f2,f3,f4,_⟩,⟨f5,f6,f8,f9,_⟩,f7,fT,fL,fE,fD⟩:=hf
 obtain ⟨sT,sI,sF,sL,sG,sX,sS,sE,sD⟩:=hs
 have n0:=few_iff f0
 have n1:=few_iff f1
 have n2:=few_iff f2
 have n3:=few_iff f3
 have n4:=few_iff f4
 have n5:=few_iff f5
 have n6:=few_iff f6
 have n8:=few_iff f8
 have n9:=few_iff f9
 have n7:m.start.length<=1:=by
  have:=of_decide_eq_true (p:=((m.start.length:Int)<=1)) f7;omega
 have hT:∀x ∈ m.types,x.params.length<=4096/\x.results.length<=4096:=fun x hx=>by
  have:=List.all_eq_true.1 fT x hx
  unfold fewT at this
  simp only [Bool.and_eq_true] at this
  exact ⟨few_iff this.1,few_iff this.2.1⟩
 have hI:∀x ∈ m.imports,x.mod.size<=64/\x.name.size<=64/\0<=x.type/\x.type<=4294967295:=fun x hx=>by
  have:=List.all_eq_true.1 sI x hx
  unfold shI nm at this
  simp only [Bool.and_eq_true] at this
  obtain ⟨⟨a,b,_⟩,e,_⟩:=this
  have a:=of_decide_eq_true a.1
  have b:=of_decide_eq_true b.1
  exact ⟨by omega,by omega,idx_iff e⟩
 have hFu:∀x ∈ m.funcs,(0<=x.type/\x.type<=4294967295)/\Rg d x.body/\x.locals.length<=256:=fun x hx=>by
  have a:=List.all_eq_true.1 sF x hx
  have b:=of_decide_eq_true (p:=((x.locals.length:Int)<=256)) (List.all_eq_true.1 fL x hx)
  unfold shF at a
  simp only [Bool.and_eq_true] at a
  exact ⟨idx_iff a.1.1,rg_of d x.body 0 (goF_all _ hF x hx) (goF_all _ hL x hx) (N1 x hx),by omega⟩
 have hLi:∀x ∈ m.tables++m.mems,(0<=x.min/\x.min<=4294967295)/\0<=x.max/\x.max<=4294967295:=fun x hx=>by
  have a:=List.all_eq_true.1 sL x hx
  unfold shL at a
  simp only [Bool.and_eq_true] at a
  exact ⟨idx_iff a.1.1,idx_iff a.1.2.1⟩
 have hB:=fun x hx=>hLi x (List.mem_append_left _ hx)
 have hM:=fun x hx=>hLi x (List.mem_append_right _ hx)
 have hG:=fun x (hx:x ∈ m.globals)=>by
  have a:=List.all_eq_true.1 sG x hx
  unfold shG at a
  simp only [Bool.and_eq_true] at a
  exact cst_rg a.2 (N2 x hx)
 have hX:∀x ∈ m.exports,x.name.size<=64/\0<=x.index/\x.index<=4294967295:=fun x hx=>by
  have a:=List.all_eq_true.1 sX x hx
  unfold shE nm at a
  simp only [Bool.and_eq_true] at a
  obtain ⟨⟨a,_⟩,_,e,_⟩:=a
  have a:=of_decide_eq_true a.1
  exact ⟨by omega,idx_iff e⟩
 have hS:∀x ∈ m.start,0<=x/\x<=4294967295:=fun x hx=>idx_iff (List.all_eq_true.1 sS x hx)
 have hE:=fun x (hx:x ∈ m.elems)=>by
  have a:=List.all_eq_true.1 sE x hx
  simp only [Bool.and_eq_true] at a
  have b:=List.all_eq_true.1 fE x hx
  unfold fewE at b
  simp only [Bool.and_eq_true] at b
  exact (⟨cst_rg a.1 (N3 x hx),fun y hy=>idx_iff (List.all_eq_true.1 a.2 y hy),few_iff b.1⟩:_/\(∀y ∈ x.funcs,0<=y/\y<=4294967295)/\x.funcs.length<=4096)
 have hD:=fun x (hx:x ∈ m.datas)=>by
  have a:=List.all_eq_true.1 sD x hx
  exact (⟨cst_rg a (N4 x hx),room_le _ _ fD x hx⟩:_/\x.bytes.size<=262144)
 refine ⟨fun x hx=>?_,fun x hx=>?_,fun x hx=>?_,hB,hM,fun x hx=>(hG x hx).1,fun x hx=>?_,hS,fun x hx=>?_,fun x hx=>?_,by omega,?_,fun x hx y hy=>?_,n7⟩
 ·have:=hT x hx;omega
 ·have:=hI x hx;omega
 ·have:=hFu x hx;exact ⟨this.1,this.2.1,by omega⟩
 ·have:=hX x hx;omega
 ·have:=hE x hx;exact ⟨this.1.1,this.2.1,by omega⟩
 ·have:=hD x hx;exact ⟨this.1.1,by omega⟩
 ·exact short_of hT hI hFu hB hM (fun x hx=>(hG x hx).2) hX hS (fun x hx=>⟨(hE x hx).1.2,(hE x hx).2⟩) (fun x hx=>⟨(hD x hx).1.2,(hD x hx).2⟩) (by omega) n0 n1 n2 n3 n4 n5 n6 (by omega) n8 n9
 ·have a:=List.all_eq_true.1 sF x hx
  unfold shF at a
  simp only [Bool.and_eq_true] at a
  exact of_decide_eq_true (List.all_eq_true.1 a.2 y hy)
end Enc
end Go.Proofs.YtlcpagiljfpbpaaDoor

