/- Texts that the claim needs. -/
import Derived.Test.YtlcpagiljfpbpaaDoorQEUn11
namespace Go.Proofs.YtlcpagiljfpbpaaDoor
open Go.RowKit Rep
set_option linter.unusedVariables false
namespace Rep
section M
variable {k d:Nat} {w1 w w9:World} {b:Nat} {t t':Value} {m:Mod d} {c0 c1 c2 c3 c4 c5 c6 c7 c8:Value}
theorem St.step (h:St k w1 w b t m c0 c1 c2 c3 c4 c5 c6 c7 c8) (hg:w.grownBy w9 t.ownBlock) (hv:t'.ownBlock=t.ownBlock\/t'.ownBlock=some w.heap.size) (hlt:∀k,t.ownBlock=some k->w1.heap.size<=k/\k<w.heap.size) (i:Nat) (u:Value):St k w1 (w9.setCell ⟨b,i,none⟩ u) b t' m c0 c1 c2 c3 c4 c5 c6 c7 c8 :=
 h.keep ((sub_grown hg hv).trans sub_set) ((h.below.grown hg h.below.size fun k hk=>(hlt k hk).1).setCell h.base _)
end M
def Mid1 {d:Nat} (w1:World) (b:Nat) (m:Mod d) (c1 c3 c4 c6 c7:Value) (j:Nat) (wx:World):Prop :=
 ∃t,BlkM wx b t c1 (.slice none 0 0) c3 c4 (.slice none 0 0) c6 c7 (.slice none 0 0) (.slice none 0 0)/\Gro wx w1.heap.size b 48 2 FTAt m.types j t/\St 0 w1 wx b t m (.slice none 0 0) c1 (.slice none 0 0) c3 c4 (.slice none 0 0) c6 c7 (.slice none 0 0)
def Mid2 {d:Nat} (w1:World) (b:Nat) (m:Mod d) (c1 c3 c4 c6 c7:Value) (c0:Value) (j:Nat) (wx:World):Prop :=
 ∃t,BlkM wx b c0 c1 t c3 c4 (.slice none 0 0) c6 c7 (.slice none 0 0) (.slice none 0 0)/\Gro wx w1.heap.size b 42 3 (fun R=>FunAt R d) m.funcs j t/\St 1 w1 wx b t m c0 c1 (.slice none 0 0) c3 c4 (.slice none 0 0) c6 c7 (.slice none 0 0)
def Mid3 {d:Nat} (w1:World) (b:Nat) (m:Mod d) (c1 c3 c4 c6 c7:Value) (c0 c2:Value) (j:Nat) (wx:World):Prop :=
 ∃t,BlkM wx b c0 c1 c2 c3 c4 t c6 c7 (.slice none 0 0) (.slice none 0 0)/\Gro wx w1.heap.size b 56 9 (fun R=>GloAt R d) m.globals j t/\St 2 w1 wx b t m c0 c1 c2 c3 c4 (.slice none 0 0) c6 c7 (.slice none 0 0)
def Mid4 {d:Nat} (w1:World) (b:Nat) (m:Mod d) (c1 c3 c4 c6 c7:Value) (c0 c2 c5:Value) (j:Nat) (wx:World):Prop :=
 ∃t,BlkM wx b c0 c1 c2 c3 c4 c5 c6 c7 t (.slice none 0 0)/\Gro wx w1.heap.size b 52 8 (fun R=>ElmAt R d) m.elems j t/\St 3 w1 wx b t m c0 c1 c2 c3 c4 c5 c6 c7 (.slice none 0 0)
def Mid5 {d:Nat} (w1:World) (b:Nat) (m:Mod d) (c1 c3 c4 c6 c7:Value) (c0 c2 c5 c8:Value) (j:Nat) (wx:World):Prop :=
 ∃t,BlkM wx b c0 c1 c2 c3 c4 c5 c6 c7 c8 t/\Gro wx w1.heap.size b 54 8 (fun R=>DatAt R d) m.datas j t/\St 4 w1 wx b t m c0 c1 c2 c3 c4 c5 c6 c7 c8
theorem mid1_fin {d:Nat} {w1 w:World} {b:Nat} {m:Mod d} {c1 c3 c4 c6 c7  : Value} (h:Mid1 w1 b m c1 c3 c4 c6 c7  m.types.length w) (hn:m.types.length<=9223372036854775807):∃c0,Mid2 w1 b m c1 c3 c4 c6 c7 c0 0 w:=by
 obtain ⟨t,hb,hg,hs⟩:=h
 have hk:=hs.keep (sub_nil (w1:=w1) (t:=t)) hs.below
 exact ⟨t,(.slice none 0 0),hb,Gro.nil,⟨hk.below,hk.base,hk.five,fun _=>hg.fin hn,fun h=>absurd h (by omega),fun h=>absurd h (by omega),fun h=>absurd h (by omega)⟩⟩
theorem mid1_step {d:Nat} {w1 w w9:World} {b j:Nat} {t t':Value} {m:Mod d} {x:_} {cs:List Value} {c1 c3 c4 c6 c7  : Value} (hB:BlkM w b t c1 (.slice none 0 0) c3 c4 (.slice none 0 0) c6 c7 (.slice none 0 0) (.slice none 0 0)) (hS:St 0 w1 w b t m (.slice none 0 0) c1 (.slice none 0 0) c3 c4 (.slice none 0 0) c6 c7 (.slice none 0 0)) (ps:List (_ × List Value)) (h1:ps.map (·.1)=m.types.take j) (h2:ps.length=j) (h4:t.ownBlock≠some b) (h5:∀p ∈ ps,Piece (only w (sel w1.heap.size b t)) 2 FTAt p.1 p.2)
  (hx:m.types[j]?=some x) (hp:Piece (only w (sel w1.heap.size b t)) 2 FTAt x cs) (h3:w.ownsRow w1.heap.size 48 2 t j (flat ps)) (ho:w9.ownsRow w1.heap.size 48 2 t' (j+1) (flat ps++cs)) (hg:w.grownBy w9 t.ownBlock) (hv:t'.ownBlock=t.ownBlock\/t'.ownBlock=some w.heap.size):Mid1 w1 b m c1 c3 c4 c6 c7  (j+1) (w9.setCell ⟨b,0,none⟩ t') :=
 ⟨t',(hB.keep (hg.block b hB.lt (fun e=>h4 e.symm))).set0 t',(Gro.snoc ps h1 h2 h4 h5 hx hp hB.lt ho hg hv).set 0 t',hS.step hg hv (fun k hk=>h3.lt k hk) 0 t'⟩
theorem mid2_fin {d:Nat} {w1 w:World} {b:Nat} {m:Mod d} {c1 c3 c4 c6 c7 c0:Value} (h:Mid2 w1 b m c1 c3 c4 c6 c7 c0 m.funcs.length w) (hn:m.funcs.length<=9223372036854775807):∃c2,Mid3 w1 b m c1 c3 c4 c6 c7 c0 c2 0 w:=by
 obtain ⟨t,hb,hg,hs⟩:=h
 have hk:=hs.keep (sub_nil (w1:=w1) (t:=t)) hs.below
 exact ⟨t,(.slice none 0 0),hb,Gro.nil,⟨hk.below,hk.base,hk.five,fun _=>hk.types (by omega),fun _=>hg.fin hn,fun h=>absurd h (by omega),fun h=>absurd h (by omega)⟩⟩
theorem mid2_step {d:Nat} {w1 w w9:World} {b j:Nat} {t t':Value} {m:Mod d} {x:_} {cs:List Value} {c1 c3 c4 c6 c7 c0:Value} (hB:BlkM w b c0 c1 t c3 c4 (.slice none 0 0) c6 c7 (.slice none 0 0) (.slice none 0 0)) (hS:St 1 w1 w b t m c0 c1 (.slice none 0 0) c3 c4 (.slice none 0 0) c6 c7 (.slice none 0 0)) (ps:List (_ × List Value)) (h1:ps.map (·.1)=m.funcs.take j) (h2:ps.length=j) (h4:t.ownBlock≠some b) (h5:∀p ∈ ps,Piece (only w (sel w1.heap.size b t)) 3 (fun R=>FunAt R d) p.1 p.2)
  (hx:m.funcs[j]?=some x) (hp:Piece (only w (sel w1.heap.size b t)) 3 (fun R=>FunAt R d) x cs) (h3:w.ownsRow w1.heap.size 42 3 t j (flat ps)) (ho:w9.ownsRow w1.heap.size 42 3 t' (j+1) (flat ps++cs)) (hg:w.grownBy w9 t.ownBlock) (hv:t'.ownBlock=t.ownBlock\/t'.ownBlock=some w.heap.size):Mid2 w1 b m c1 c3 c4 c6 c7 c0 (j+1) (w9.setCell ⟨b,2,none⟩ t') :=
 ⟨t',(hB.keep (hg.block b hB.lt (fun e=>h4 e.symm))).set2 t',(Gro.snoc ps h1 h2 h4 h5 hx hp hB.lt ho hg hv).set 2 t',hS.step hg hv (fun k hk=>h3.lt k hk) 2 t'⟩
theorem mid3_fin {d:Nat} {w1 w:World} {b:Nat} {m:Mod d} {c1 c3 c4 c6 c7 c0 c2:Value} (h:Mid3 w1 b m c1 c3 c4 c6 c7 c0 c2 m.globals.length w) (hn:m.globals.length<=9223372036854775807):∃c5,Mid4 w1 b m c1 c3 c4 c6 c7 c0 c2 c5 0 w:=by
 obtain ⟨t,hb,hg,hs⟩:=h
 have hk:=hs.keep (sub_nil (w1:=w1) (t:=t)) hs.below
 exact ⟨t,(.slice none 0 0),hb,Gro.nil,⟨hk.below,hk.base,hk.five,fun _=>hk.types (by omega),fun _=>hk.funcs (by omega),fun _=>hg.fin hn,fun h=>absurd h (by omega)⟩⟩
theorem mid3_step {d:Nat} {w1 w w9:World} {b j:Nat} {t t':Value} {m:Mod d} {x:_} {cs:List Value} {c1 c3 c4 c6 c7 c0 c2:Value} (hB:BlkM w b c0 c1 c2 c3 c4 t c6 c7 (.slice none 0 0) (.slice none 0 0)) (hS:St 2 w1 w b t m c0 c1 c2 c3 c4 (.slice none 0 0) c6 c7 (.slice none 0 0)) (ps:List (_ × List Value)) (h1:ps.map (·.1)=m.globals.take j) (h2:ps.length=j) (h4:t.ownBlock≠some b) (h5:∀p ∈ ps,Piece (only w (sel w1.heap.size b t)) 9 (fun R=>GloAt R d) p.1 p.2)
  (hx:m.globals[j]?=some x) (hp:Piece (only w (sel w1.heap.size b t)) 9 (fun R=>GloAt R d) x cs) (h3:w.ownsRow w1.heap.size 56 9 t j (flat ps)) (ho:w9.ownsRow w1.heap.size 56 9 t' (j+1) (flat ps++cs)) (hg:w.grownBy w9 t.ownBlock) (hv:t'.ownBlock=t.ownBlock\/t'.ownBlock=some w.heap.size):Mid3 w1 b m c1 c3 c4 c6 c7 c0 c2 (j+1) (w9.setCell ⟨b,5,none⟩ t') :=
 ⟨t',(hB.keep (hg.block b hB.lt (fun e=>h4 e.symm))).set5 t',(Gro.snoc ps h1 h2 h4 h5 hx hp hB.lt ho hg hv).set 5 t',hS.step hg hv (fun k hk=>h3.lt k hk) 5 t'⟩
theorem mid4_fin {d:Nat} {w1 w:World} {b:Nat} {m:Mod d} {c1 c3 c4 c6 c7 c0 c2 c5:Value} (h:Mid4 w1 b m c1 c3 c4 c6 c7 c0 c2 c5 m.elems.length w) (hn:m.elems.length<=9223372036854775807):∃c8,Mid5 w1 b m c1 c3 c4 c6 c7 c0 c2 c5 c8 0 w:=by
 obtain ⟨t,hb,hg,hs⟩:=h
 have hk:=hs.keep (sub_nil (w1:=w1) (t:=t)) hs.below
 exact ⟨t,(.slice none 0 0),hb,Gro.nil,⟨hk.below,hk.base,hk.five,fun _=>hk.types (by omega),fun _=>hk.funcs (by omega),fun _=>hk.globals (by omega),fun _=>hg.fin hn⟩⟩
theorem mid4_step {d:Nat} {w1 w w9:World} {b j:Nat} {t t':Value} {m:Mod d} {x:_} {cs:List Value} {c1 c3 c4 c6 c7 c0 c2 c5:Value} (hB:BlkM w b c0 c1 c2 c3 c4 c5 c6 c7 t (.slice none 0 0)) (hS:St 3 w1 w b t m c0 c1 c2 c3 c4 c5 c6 c7 (.slice none 0 0)) (ps:List (_ × List Value)) (h1:ps.map (·.1)=m.elems.take j) (h2:ps.length=j) (h4:t.ownBlock≠some b) (h5:∀p ∈ ps,Piece (only w (sel w1.heap.size b t)) 8 (fun R=>ElmAt R d) p.1 p.2)
  (hx:m.elems[j]?=some x) (hp:Piece (only w (sel w1.heap.size b t)) 8 (fun R=>ElmAt R d) x cs) (h3:w.ownsRow w1.heap.size 52 8 t j (flat ps)) (ho:w9.ownsRow w1.heap.size 52 8 t' (j+1) (flat ps++cs)) (hg:w.grownBy w9 t.ownBlock) (hv:t'.ownBlock=t.ownBlock\/t'.ownBlock=some w.heap.size):Mid4 w1 b m c1 c3 c4 c6 c7 c0 c2 c5 (j+1) (w9.setCell ⟨b,8,none⟩ t') :=
 ⟨t',(hB.keep (hg.block b hB.lt (fun e=>h4 e.symm))).set8 t',(Gro.snoc ps h1 h2 h4 h5 hx hp hB.lt ho hg hv).set 8 t',hS.step hg hv (fun k hk=>h3.lt k hk) 8 t'⟩
theorem mid5_step {d:Nat} {w1 w w9:World} {b j:Nat} {t t':Value} {m:Mod d} {x:_} {cs:List Value} {c1 c3 c4 c6 c7 c0 c2 c5 c8:Value} (hB:BlkM w b c0 c1 c2 c3 c4 c5 c6 c7 c8 t) (hS:St 4 w1 w b t m c0 c1 c2 c3 c4 c5 c6 c7 c8) (ps:List (_ × List Value)) (h1:ps.map (·.1)=m.datas.take j) (h2:ps.length=j) (h4:t.ownBlock≠some b) (h5:∀p ∈ ps,Piece (only w (sel w1.heap.size b t)) 8 (fun R=>DatAt R d) p.1 p.2)
  (hx:m.datas[j]?=some x) (hp:Piece (only w (sel w1.heap.size b t)) 8 (fun R=>DatAt R d) x cs) (h3:w.ownsRow w1.heap.size 54 8 t j (flat ps)) (ho:w9.ownsRow w1.heap.size 54 8 t' (j+1) (flat ps++cs)) (hg:w.grownBy w9 t.ownBlock) (hv:t'.ownBlock=t.ownBlock\/t'.ownBlock=some w.heap.size):Mid5 w1 b m c1 c3 c4 c6 c7 c0 c2 c5 c8 (j+1) (w9.setCell ⟨b,9,none⟩ t') :=
 ⟨t',(hB.keep (hg.block b hB.lt (fun e=>h4 e.symm))).set9 t',(Gro.snoc ps h1 h2 h4 h5 hx hp hB.lt ho hg hv).set 9 t',hS.step hg hv (fun k hk=>h3.lt k hk) 9 t'⟩
theorem mid5_end {d:Nat} {w1 w w':World} {b:Nat} {m:Mod d} {c1 c3 c4 c6 c7 c0 c2 c5 c8:Value} (h:Mid5 w1 b m c1 c3 c4 c6 c7 c0 c2 c5 c8 m.datas.length w) (hn:m.datas.length<=9223372036854775807) (hk:∀k,w1.heap.size<=k->k<w.heap.size->w'.heap[k]?=w.heap[k]?):∃c9,BlkM w b c0 c1 c2 c3 c4 c5 c6 c7 c8 c9/\(∃o c,c9=.slice o m.datas.length c)/\ModAt w' d c0 c1 c2 c3 c4 c5 c6 c7 c8 c9 m/\(∀n c,c3=.slice none n c->c=0)/\(∀n c,c4=.slice none n c->c=0):=by
 obtain ⟨t,hb,hg,hs⟩:=h
 have hk':=hs.keep (sub_nil (w1:=w1) (t:=t)) hs.below
 have hsub:Sub (only w (sel w1.heap.size b (.slice none 0 0))) w':=fun b' o u h=>by
  obtain ⟨h1,h2⟩:=only_cell.1 h
  exact (World.cell?_of_block (a:=⟨b',o,none⟩) (hk b' (sel_iff.1 h1).1 (World.block_lt_of_cell? _ _ h2))).trans h2
 refine ⟨t,hb,hg.slice,⟨(hk'.types (by omega)).imp fun _ _ _ _=>FTAt.sub hsub,hk'.five.imports.imp fun _ _ _ _=>ImpAt.sub hsub,(hk'.funcs (by omega)).imp fun _ _ _ _=>FunAt.sub hsub,hk'.five.tables.imp fun _ _ _ _=>LimAt.sub hsub,hk'.five.mems.imp fun _ _ _ _=>LimAt.sub hsub,(hk'.globals (by omega)).imp fun _ _ _ _=>GloAt.sub hsub,hk'.five.exports.imp fun _ _ _ _=>ExpAt.sub hsub,hk'.five.start.sub hsub,(hk'.elems (by omega)).imp fun _ _ _ _=>ElmAt.sub hsub,(hg.fin hn).imp fun _ _ _ _=>DatAt.sub hsub⟩,hk'.five.cap3,hk'.five.cap4⟩
theorem sub_sel {B B' b:Nat} {t:Value} {w:World} (h1:B<=B') (h2:b<B') (h3:∀k,t.ownBlock=some k->k<B'):Sub (only w (ge B')) (only w (sel B b t)):=sub_only fun k _ hk=>by
 have hk':B'<=k:=of_decide_eq_true hk
 exact ⟨sel_iff.2 ⟨by omega,by omega,fun e=>by have:=h3 k e;omega⟩,rfl⟩
theorem len21 {x:List Value} (h:x.length=21):∃x0 x1 x2 x3 x4 x5 x6 x7 x8 x9 x10 x11 x12 x13 x14 x15 x16 x17 x18 x19 x20,x = [x0,x1,x2,x3,x4,x5,x6,x7,x8,x9,x10,x11,x12,x13,x14,x15,x16,x17,x18,x19,x20]:=by
 match x,h with
 | [x0,x1,x2,x3,x4,x5,x6,x7,x8,x9,x10,x11,x12,x13,x14,x15,x16,x17,x18,x19,x20],_=>exact ⟨x0,x1,x2,x3,x4,x5,x6,x7,x8,x9,x10,x11,x12,x13,x14,x15,x16,x17,x18,x19,x20,rfl⟩
theorem len22 {x:List Value} (h:x.length=22):∃x0 x1 x2 x3 x4 x5 x6 x7 x8 x9 x10 x11 x12 x13 x14 x15 x16 x17 x18 x19 x20 x21,x = [x0,x1,x2,x3,x4,x5,x6,x7,x8,x9,x10,x11,x12,x13,x14,x15,x16,x17,x18,x19,x20,x21]:=by
 match x,h with
 | [x0,x1,x2,x3,x4,x5,x6,x7,x8,x9,x10,x11,x12,x13,x14,x15,x16,x17,x18,x19,x20,x21],_=>exact ⟨x0,x1,x2,x3,x4,x5,x6,x7,x8,x9,x10,x11,x12,x13,x14,x15,x16,x17,x18,x19,x20,x21,rfl⟩
def sFive {d:Nat} (B:Nat) (m:Mod d):Stab:=⟨fun v w=>∃a1 b1 a3 b3 a4 b4 a6 b6 a7 b7,v=.agg #[.slice none 0 0,.slice a1 m.imports.length b1,.slice none 0 0,.slice a3 m.tables.length b3,.slice a4 m.mems.length b4,.slice none 0 0,.slice a6 m.exports.length b6,.slice a7 m.start.length b7,.slice none 0 0,.slice none 0 0]/\w.ownsRow B 71 3 (.slice a1 m.imports.length b1) m.imports.length (flat (withCells impCs m.imports))/\w.ownsRow B 73 3 (.slice a3 m.tables.length b3) m.tables.length (flat (withCells limCs m.tables))/\w.ownsRow B 73 3 (.slice a4 m.mems.length b4) m.mems.length (flat (withCells limCs m.mems))/\w.ownsRow B 76 3 (.slice a6 m.exports.length b6) m.exports.length (flat (withCells expCs m.exports))/\w.ownsRow B 3 1 (.slice a7 m.start.length b7) m.start.length (ints m.start),
 fun v w w' ⟨a1,b1,a3,b3,a4,b4,a6,b6,a7,b7,h0,h1,h3,h4,h6,h7⟩ hb=>⟨a1,b1,a3,b3,a4,b4,a6,b6,a7,b7,h0,own_on h1 hb,own_on h3 hb,own_on h4 hb,own_on h6 hb,own_on h7 hb⟩⟩
def sNew (B:Nat):Stab:=⟨fun v w=>∃g,v=.pointer (some ⟨g,0,none⟩)/\B<=g/\BlkM w g (.slice none 0 0) (.slice none 0 0) (.slice none 0 0) (.slice none 0 0) (.slice none 0 0) (.slice none 0 0) (.slice none 0 0) (.slice none 0 0) (.slice none 0 0) (.slice none 0 0),fun v w w' ⟨g,h1,h2,h3⟩ hb=>⟨g,h1,h2,h3.on hb⟩⟩
theorem five_end {d:Nat} {w1 w:World} {g:Nat} {m:Mod d} {a1 a3 a4 a6 a7:Option Addr} {b1 b3 b4 b6 b7:Nat} (hB:Below w1.heap.size w1 w) (hg:w1.heap.size<=g) (hK:BlkM w g (.slice none 0 0) (.slice none 0 0) (.slice none 0 0) (.slice none 0 0) (.slice none 0 0) (.slice none 0 0) (.slice none 0 0) (.slice none 0 0) (.slice none 0 0) (.slice none 0 0))
  (h1:w.ownsRow w1.heap.size 71 3 (.slice a1 m.imports.length b1) m.imports.length (flat (withCells impCs m.imports)))
  (h3:w.ownsRow w1.heap.size 73 3 (.slice a3 m.tables.length b3) m.tables.length (flat (withCells limCs m.tables)))
  (h4:w.ownsRow w1.heap.size 73 3 (.slice a4 m.mems.length b4) m.mems.length (flat (withCells limCs m.mems)))
  (h6:w.ownsRow w1.heap.size 76 3 (.slice a6 m.exports.length b6) m.exports.length (flat (withCells expCs m.exports)))
  (h7:w.ownsRow w1.heap.size 3 1 (.slice a7 m.start.length b7) m.start.length (ints m.start)) (l1:m.imports.length<=9223372036854775807) (l3:m.tables.length<=9223372036854775807) (l4:m.mems.length<=9223372036854775807) (l6:m.exports.length<=9223372036854775807) (l7:m.start.length<=9223372036854775807) :
  Mid1 w1 g m (.slice a1 m.imports.length b1) (.slice a3 m.tables.length b3) (.slice a4 m.mems.length b4) (.slice a6 m.exports.length b6) (.slice a7 m.start.length b7) 0 (setAll w g (.slice none 0 0) (.slice a1 m.imports.length b1) (.slice none 0 0) (.slice a3 m.tables.length b3) (.slice a4 m.mems.length b4) (.slice none 0 0) (.slice a6 m.exports.length b6) (.slice a7 m.start.length b7) (.slice none 0 0) (.slice none 0 0)):=by
 have hs:Sub (only w (sel w1.heap.size g (.slice none 0 0))) (only (setAll w g (.slice none 0 0) (.slice a1 m.imports.length b1) (.slice none 0 0) (.slice a3 m.tables.length b3) (.slice a4 m.mems.length b4) (.slice none 0 0) (.slice a6 m.exports.length b6) (.slice a7 m.start.length b7) (.slice none 0 0) (.slice none 0 0)) (sel w1.heap.size g (.slice none 0 0))):=sub_only fun k _ hk=>⟨hk,setAll_block _ _ _ _ _ _ _ _ _ _ k (sel_iff.1 hk).2.1⟩
 have r1:=row_with (b:=g) piece_imp h1 (own_ne h1 hK (by decide)) l1
 have r3:=row_with (b:=g) piece_lim h3 (own_ne h3 hK (by decide)) l3
 have r4:=row_with (b:=g) piece_lim h4 (own_ne h4 hK (by decide)) l4
 have r6:=row_with (b:=g) piece_exp h6 (own_ne h6 hK (by decide)) l6
 have r7:=ints_with (R:=w) (b:=g) h7 (own_ne h7 hK (by decide)) l7
 refine ⟨(.slice none 0 0),hK.all _ _ _ _ _ _ _ _ _ _,Gro.nil,⟨setAll_below hB hg _ _ _ _ _ _ _ _ _ _,hg,⟨r1.imp fun _ _ _ _=>ImpAt.sub hs,r3.imp fun _ _ _ _=>LimAt.sub hs,r4.imp fun _ _ _ _=>LimAt.sub hs,r6.imp fun _ _ _ _=>ExpAt.sub hs,r7.sub hs,own_cap h3,own_cap h4⟩,fun h=>absurd h (by omega),fun h=>absurd h (by omega),fun h=>absurd h (by omega),fun h=>absurd h (by omega)⟩⟩
theorem imp_get {w:World} {b o:Nat} {x:Imp} (h:ImpAt w b o x) (k:Nat) (u:Value) (hk:(impCs x)[k]?=some u):w.cell? ⟨b,o+k,none⟩=some u:=get3 h.mod h.name h.type k hk
theorem imp_one (x:Imp):∀u ∈ impCs x,u.oneCell'=true:=one3 rfl rfl rfl
theorem lim_get {w:World} {b o:Nat} {x:Lim} (h:LimAt w b o x) (k:Nat) (u:Value) (hk:(limCs x)[k]?=some u):w.cell? ⟨b,o+k,none⟩=some u:=get3 h.min h.max h.has k hk
theorem lim_one (x:Lim):∀u ∈ limCs x,u.oneCell'=true:=one3 rfl rfl rfl
theorem exp_get {w:World} {b o:Nat} {x:Exp} (h:ExpAt w b o x) (k:Nat) (u:Value) (hk:(expCs x)[k]?=some u):w.cell? ⟨b,o+k,none⟩=some u:=get3 h.name h.kind h.index k hk
theorem exp_one (x:Exp):∀u ∈ expCs x,u.oneCell'=true:=one3 rfl rfl rfl
end Rep
end Go.Proofs.YtlcpagiljfpbpaaDoor

