/- Texts that the claim needs. -/
import Derived.Test.YtmfcojpjpgldhaaGreatDoorQEBy9
namespace Go.Proofs.YtmfcojpjpgldhaaGreatDoor
open Go.RowKit aA
set_option linter.unusedVariables false
namespace aA
section M
variable {k d:Nat} {w1 w w9:World} {b:Nat} {t t':Value} {m:Mod d} {c0 c1 c2 c3 c4 c5 c6 c7 c8:Value}
theorem St.step (h:St k w1 w b t m c0 c1 c2 c3 c4 c5 c6 c7 c8) (hg:w.grownBy w9 t.ownBlock) (hv:t'.ownBlock=t.ownBlock\/t'.ownBlock=some w.heap.size) (hlt:∀k,t.ownBlock=some k->w1.heap.size<=k/\k<w.heap.size) (i:Nat) (u:Value):St k w1 (w9.setCell ⟨b,i,none⟩ u) b t' m c0 c1 c2 c3 c4 c5 c6 c7 c8 :=
 h.keep ((Gf hg hv).trans Kl) ((h.below.grown hg h.below.size λk hk=>(hlt k hk).1).setCell h.base _)
end M
def BD {d:Nat} (w1:World) (b:Nat) (m:Mod d) (c1 c3 c4 c6 c7:Value) (j:Nat) (wx:World):Prop :=
 ∃t,bG wx b t c1 (.slice none 0 0) c3 c4 (.slice none 0 0) c6 c7 (.slice none 0 0) (.slice none 0 0)/\jA wx w1.heap.size b 47 2 nu m.types j t/\St 0 w1 wx b t m (.slice none 0 0) c1 (.slice none 0 0) c3 c4 (.slice none 0 0) c6 c7 (.slice none 0 0)
def Dt {d:Nat} (w1:World) (b:Nat) (m:Mod d) (c1 c3 c4 c6 c7:Value) (c0:Value) (j:Nat) (wx:World):Prop :=
 ∃t,bG wx b c0 c1 t c3 c4 (.slice none 0 0) c6 c7 (.slice none 0 0) (.slice none 0 0)/\jA wx w1.heap.size b 45 3 (λR=>jW R d) m.funcs j t/\St 1 w1 wx b t m c0 c1 (.slice none 0 0) c3 c4 (.slice none 0 0) c6 c7 (.slice none 0 0)
def Dv {d:Nat} (w1:World) (b:Nat) (m:Mod d) (c1 c3 c4 c6 c7:Value) (c0 c2:Value) (j:Nat) (wx:World):Prop :=
 ∃t,bG wx b c0 c1 c2 c3 c4 t c6 c7 (.slice none 0 0) (.slice none 0 0)/\jA wx w1.heap.size b 55 9 (λR=>mN R d) m.globals j t/\St 2 w1 wx b t m c0 c1 c2 c3 c4 (.slice none 0 0) c6 c7 (.slice none 0 0)
def DC {d:Nat} (w1:World) (b:Nat) (m:Mod d) (c1 c3 c4 c6 c7:Value) (c0 c2 c5:Value) (j:Nat) (wx:World):Prop :=
 ∃t,bG wx b c0 c1 c2 c3 c4 c5 c6 c7 t (.slice none 0 0)/\jA wx w1.heap.size b 51 8 (λR=>mO R d) m.elems j t/\St 3 w1 wx b t m c0 c1 c2 c3 c4 c5 c6 c7 (.slice none 0 0)
def DF {d:Nat} (w1:World) (b:Nat) (m:Mod d) (c1 c3 c4 c6 c7:Value) (c0 c2 c5 c8:Value) (j:Nat) (wx:World):Prop :=
 ∃t,bG wx b c0 c1 c2 c3 c4 c5 c6 c7 c8 t/\jA wx w1.heap.size b 53 8 (λR=>nR R d) m.ax j t/\St 4 w1 wx b t m c0 c1 c2 c3 c4 c5 c6 c7 c8
theorem Pe {d:Nat} {w1 w:World} {b:Nat} {m:Mod d} {c1 c3 c4 c6 c7  : Value} (h:BD w1 b m c1 c3 c4 c6 c7  m.types.length w) (hn:m.types.length<=9223372036854775807):∃c0,Dt w1 b m c1 c3 c4 c6 c7 c0 0 w:=by
 obtain ⟨t,hb,hg,hs⟩:=h;have hk:=hs.keep (Cs (w1:=w1) (t:=t)) hs.below;exact ⟨t,(.slice none 0 0),hb,jA.nil,⟨hk.below,hk.base,hk.five,λ_=>hg.fin hn,λh=>absurd h (by omega),λh=>absurd h (by omega),λh=>absurd h (by omega)⟩⟩
theorem Pd {d:Nat} {w1 w w9:World} {b j:Nat} {t t':Value} {m:Mod d} {x:_} {cs:List Value} {c1 c3 c4 c6 c7  : Value} (hB:bG w b t c1 (.slice none 0 0) c3 c4 (.slice none 0 0) c6 c7 (.slice none 0 0) (.slice none 0 0)) (hS:St 0 w1 w b t m (.slice none 0 0) c1 (.slice none 0 0) c3 c4 (.slice none 0 0) c6 c7 (.slice none 0 0)) (ps:List (_ × List Value)) (h1:ps.map (·.1)=m.types.take j) (h2:ps.length=j) (h4:t.ownBlock≠some b) (h5:∀p ∈ ps,Piece (only w (gU w1.heap.size b t)) 2 nu p.1 p.2)
  (hx:m.types[j]?=some x) (hp:Piece (only w (gU w1.heap.size b t)) 2 nu x cs) (h3:w.ownsRow w1.heap.size 47 2 t j (flat ps)) (ho:w9.ownsRow w1.heap.size 47 2 t' (j+1) (flat ps++cs)) (hg:w.grownBy w9 t.ownBlock) (hv:t'.ownBlock=t.ownBlock\/t'.ownBlock=some w.heap.size):BD w1 b m c1 c3 c4 c6 c7  (j+1) (w9.setCell ⟨b,0,none⟩ t') :=
 ⟨t',(hB.keep (hg.block b hB.lt (λe=>h4 e.symm))).set0 t',(jA.snoc ps h1 h2 h4 h5 hx hp hB.lt ho hg hv).set 0 t',hS.step hg hv (λk hk=>h3.lt k hk) 0 t'⟩
theorem Pk {d:Nat} {w1 w:World} {b:Nat} {m:Mod d} {c1 c3 c4 c6 c7 c0:Value} (h:Dt w1 b m c1 c3 c4 c6 c7 c0 m.funcs.length w) (hn:m.funcs.length<=9223372036854775807):∃c2,Dv w1 b m c1 c3 c4 c6 c7 c0 c2 0 w:=by
 obtain ⟨t,hb,hg,hs⟩:=h;have hk:=hs.keep (Cs (w1:=w1) (t:=t)) hs.below;exact ⟨t,(.slice none 0 0),hb,jA.nil,⟨hk.below,hk.base,hk.five,λ_=>hk.types (by omega),λ_=>hg.fin hn,λh=>absurd h (by omega),λh=>absurd h (by omega)⟩⟩
theorem Ph {d:Nat} {w1 w w9:World} {b j:Nat} {t t':Value} {m:Mod d} {x:_} {cs:List Value} {c1 c3 c4 c6 c7 c0:Value} (hB:bG w b c0 c1 t c3 c4 (.slice none 0 0) c6 c7 (.slice none 0 0) (.slice none 0 0)) (hS:St 1 w1 w b t m c0 c1 (.slice none 0 0) c3 c4 (.slice none 0 0) c6 c7 (.slice none 0 0)) (ps:List (_ × List Value)) (h1:ps.map (·.1)=m.funcs.take j) (h2:ps.length=j) (h4:t.ownBlock≠some b) (h5:∀p ∈ ps,Piece (only w (gU w1.heap.size b t)) 3 (λR=>jW R d) p.1 p.2)
  (hx:m.funcs[j]?=some x) (hp:Piece (only w (gU w1.heap.size b t)) 3 (λR=>jW R d) x cs) (h3:w.ownsRow w1.heap.size 45 3 t j (flat ps)) (ho:w9.ownsRow w1.heap.size 45 3 t' (j+1) (flat ps++cs)) (hg:w.grownBy w9 t.ownBlock) (hv:t'.ownBlock=t.ownBlock\/t'.ownBlock=some w.heap.size):Dt w1 b m c1 c3 c4 c6 c7 c0 (j+1) (w9.setCell ⟨b,2,none⟩ t') :=
 ⟨t',(hB.keep (hg.block b hB.lt (λe=>h4 e.symm))).set2 t',(jA.snoc ps h1 h2 h4 h5 hx hp hB.lt ho hg hv).set 2 t',hS.step hg hv (λk hk=>h3.lt k hk) 2 t'⟩
theorem Px {d:Nat} {w1 w:World} {b:Nat} {m:Mod d} {c1 c3 c4 c6 c7 c0 c2:Value} (h:Dv w1 b m c1 c3 c4 c6 c7 c0 c2 m.globals.length w) (hn:m.globals.length<=9223372036854775807):∃c5,DC w1 b m c1 c3 c4 c6 c7 c0 c2 c5 0 w:=by
 obtain ⟨t,hb,hg,hs⟩:=h;have hk:=hs.keep (Cs (w1:=w1) (t:=t)) hs.below;exact ⟨t,(.slice none 0 0),hb,jA.nil,⟨hk.below,hk.base,hk.five,λ_=>hk.types (by omega),λ_=>hk.funcs (by omega),λ_=>hg.fin hn,λh=>absurd h (by omega)⟩⟩
theorem Pw {d:Nat} {w1 w w9:World} {b j:Nat} {t t':Value} {m:Mod d} {x:_} {cs:List Value} {c1 c3 c4 c6 c7 c0 c2:Value} (hB:bG w b c0 c1 c2 c3 c4 t c6 c7 (.slice none 0 0) (.slice none 0 0)) (hS:St 2 w1 w b t m c0 c1 c2 c3 c4 (.slice none 0 0) c6 c7 (.slice none 0 0)) (ps:List (_ × List Value)) (h1:ps.map (·.1)=m.globals.take j) (h2:ps.length=j) (h4:t.ownBlock≠some b) (h5:∀p ∈ ps,Piece (only w (gU w1.heap.size b t)) 9 (λR=>mN R d) p.1 p.2)
  (hx:m.globals[j]?=some x) (hp:Piece (only w (gU w1.heap.size b t)) 9 (λR=>mN R d) x cs) (h3:w.ownsRow w1.heap.size 55 9 t j (flat ps)) (ho:w9.ownsRow w1.heap.size 55 9 t' (j+1) (flat ps++cs)) (hg:w.grownBy w9 t.ownBlock) (hv:t'.ownBlock=t.ownBlock\/t'.ownBlock=some w.heap.size):Dv w1 b m c1 c3 c4 c6 c7 c0 c2 (j+1) (w9.setCell ⟨b,5,none⟩ t') :=
 ⟨t',(hB.keep (hg.block b hB.lt (λe=>h4 e.symm))).Gi t',(jA.snoc ps h1 h2 h4 h5 hx hp hB.lt ho hg hv).set 5 t',hS.step hg hv (λk hk=>h3.lt k hk) 5 t'⟩
theorem PG {d:Nat} {w1 w:World} {b:Nat} {m:Mod d} {c1 c3 c4 c6 c7 c0 c2 c5:Value} (h:DC w1 b m c1 c3 c4 c6 c7 c0 c2 c5 m.elems.length w) (hn:m.elems.length<=9223372036854775807):∃c8,DF w1 b m c1 c3 c4 c6 c7 c0 c2 c5 c8 0 w:=by
 obtain ⟨t,hb,hg,hs⟩:=h;have hk:=hs.keep (Cs (w1:=w1) (t:=t)) hs.below;exact ⟨t,(.slice none 0 0),hb,jA.nil,⟨hk.below,hk.base,hk.five,λ_=>hk.types (by omega),λ_=>hk.funcs (by omega),λ_=>hk.globals (by omega),λ_=>hg.fin hn⟩⟩
theorem PE {d:Nat} {w1 w w9:World} {b j:Nat} {t t':Value} {m:Mod d} {x:_} {cs:List Value} {c1 c3 c4 c6 c7 c0 c2 c5:Value} (hB:bG w b c0 c1 c2 c3 c4 c5 c6 c7 t (.slice none 0 0)) (hS:St 3 w1 w b t m c0 c1 c2 c3 c4 c5 c6 c7 (.slice none 0 0)) (ps:List (_ × List Value)) (h1:ps.map (·.1)=m.elems.take j) (h2:ps.length=j) (h4:t.ownBlock≠some b) (h5:∀p ∈ ps,Piece (only w (gU w1.heap.size b t)) 8 (λR=>mO R d) p.1 p.2)
  (hx:m.elems[j]?=some x) (hp:Piece (only w (gU w1.heap.size b t)) 8 (λR=>mO R d) x cs) (h3:w.ownsRow w1.heap.size 51 8 t j (flat ps)) (ho:w9.ownsRow w1.heap.size 51 8 t' (j+1) (flat ps++cs)) (hg:w.grownBy w9 t.ownBlock) (hv:t'.ownBlock=t.ownBlock\/t'.ownBlock=some w.heap.size):DC w1 b m c1 c3 c4 c6 c7 c0 c2 c5 (j+1) (w9.setCell ⟨b,8,none⟩ t') :=
 ⟨t',(hB.keep (hg.block b hB.lt (λe=>h4 e.symm))).SS t',(jA.snoc ps h1 h2 h4 h5 hx hp hB.lt ho hg hv).set 8 t',hS.step hg hv (λk hk=>h3.lt k hk) 8 t'⟩
theorem PK {d:Nat} {w1 w w9:World} {b j:Nat} {t t':Value} {m:Mod d} {x:_} {cs:List Value} {c1 c3 c4 c6 c7 c0 c2 c5 c8:Value} (hB:bG w b c0 c1 c2 c3 c4 c5 c6 c7 c8 t) (hS:St 4 w1 w b t m c0 c1 c2 c3 c4 c5 c6 c7 c8) (ps:List (_ × List Value)) (h1:ps.map (·.1)=m.ax.take j) (h2:ps.length=j) (h4:t.ownBlock≠some b) (h5:∀p ∈ ps,Piece (only w (gU w1.heap.size b t)) 8 (λR=>nR R d) p.1 p.2)
  (hx:m.ax[j]?=some x) (hp:Piece (only w (gU w1.heap.size b t)) 8 (λR=>nR R d) x cs) (h3:w.ownsRow w1.heap.size 53 8 t j (flat ps)) (ho:w9.ownsRow w1.heap.size 53 8 t' (j+1) (flat ps++cs)) (hg:w.grownBy w9 t.ownBlock) (hv:t'.ownBlock=t.ownBlock\/t'.ownBlock=some w.heap.size):DF w1 b m c1 c3 c4 c6 c7 c0 c2 c5 c8 (j+1) (w9.setCell ⟨b,9,none⟩ t') :=
 ⟨t',(hB.keep (hg.block b hB.lt (λe=>h4 e.symm))).SU t',(jA.snoc ps h1 h2 h4 h5 hx hp hB.lt ho hg hv).set 9 t',hS.step hg hv (λk hk=>h3.lt k hk) 9 t'⟩
theorem Jq {d:Nat} {w1 w w':World} {b:Nat} {m:Mod d} {c1 c3 c4 c6 c7 c0 c2 c5 c8:Value} (h:DF w1 b m c1 c3 c4 c6 c7 c0 c2 c5 c8 m.ax.length w) (hn:m.ax.length<=9223372036854775807) (hk:∀k,w1.heap.size<=k->k<w.heap.size->w'.heap[k]?=w.heap[k]?):∃c9,bG w b c0 c1 c2 c3 c4 c5 c6 c7 c8 c9/\(∃o c,c9=.slice o m.ax.length c)/\da w' d c0 c1 c2 c3 c4 c5 c6 c7 c8 c9 m/\(∀n c,c3=.slice none n c->c=0)/\(∀n c,c4=.slice none n c->c=0):=by
 obtain ⟨t,hb,hg,hs⟩:=h;have hk':=hs.keep (Cs (w1:=w1) (t:=t)) hs.below
 have hsub:Sub (only w (gU w1.heap.size b (.slice none 0 0))) w':=λb' o u h=>by
  obtain ⟨h1,h2⟩:=rG.1 h;exact (World.cell?_of_block (a:=⟨b',o,none⟩) (hk b' (sJ.1 h1).1 (World.block_lt_of_cell? _ _ h2))).trans h2
 refine ⟨t,hb,hg.slice,⟨(hk'.types (by omega)).imp λ_ _ _ _=>nu.sub hsub,hk'.five.imports.imp λ_ _ _ _=>pU.sub hsub,(hk'.funcs (by omega)).imp λ_ _ _ _=>jW.sub hsub,hk'.five.tables.imp λ_ _ _ _=>gD.sub hsub,hk'.five.aD.imp λ_ _ _ _=>gD.sub hsub,(hk'.globals (by omega)).imp λ_ _ _ _=>mN.sub hsub,hk'.five.exports.imp λ_ _ _ _=>pV.sub hsub,hk'.five.start.sub hsub,(hk'.elems (by omega)).imp λ_ _ _ _=>mO.sub hsub,(hg.fin hn).imp λ_ _ _ _=>nR.sub hsub⟩,hk'.five.mf,hk'.five.Kn⟩
theorem BH {B B' b:Nat} {t:Value} {w:World} (h1:B<=B') (h2:b<B') (h3:∀k,t.ownBlock=some k->k<B'):Sub (only w (ge B')) (only w (gU B b t)):=wG λk _ hk=>by
 have hk':B'<=k:=of_decide_eq_true hk;exact ⟨sJ.2 ⟨by omega,by omega,λe=>by have:=h3 k e;omega⟩,rfl⟩
theorem O7 {x:List Value} (h:x.length=21):∃x0 x1 x2 x3 x4 x5 x6 x7 x8 x9 bZ ez eB eC eD eF eG eH eM fF gq,x = [x0,x1,x2,x3,x4,x5,x6,x7,x8,x9,bZ,ez,eB,eC,eD,eF,eG,eH,eM,fF,gq]:=by
 match x,h with
 | [x0,x1,x2,x3,x4,x5,x6,x7,x8,x9,bZ,ez,eB,eC,eD,eF,eG,eH,eM,fF,gq],_=>exact ⟨x0,x1,x2,x3,x4,x5,x6,x7,x8,x9,bZ,ez,eB,eC,eD,eF,eG,eH,eM,fF,gq,rfl⟩
theorem Jl {x:List Value} (h:x.length=22):∃x0 x1 x2 x3 x4 x5 x6 x7 x8 x9 bZ ez eB eC eD eF eG eH eM fF gq gS,x = [x0,x1,x2,x3,x4,x5,x6,x7,x8,x9,bZ,ez,eB,eC,eD,eF,eG,eH,eM,fF,gq,gS]:=by
 match x,h with
 | [x0,x1,x2,x3,x4,x5,x6,x7,x8,x9,bZ,ez,eB,eC,eD,eF,eG,eH,eM,fF,gq,gS],_=>exact ⟨x0,x1,x2,x3,x4,x5,x6,x7,x8,x9,bZ,ez,eB,eC,eD,eF,eG,eH,eM,fF,gq,gS,rfl⟩
def I4 {d:Nat} (B:Nat) (m:Mod d):jK:=⟨λv w=>∃a1 b1 a3 b3 a4 b4 a6 b6 a7 b7,v=.agg #[.slice none 0 0,.slice a1 m.imports.length b1,.slice none 0 0,.slice a3 m.tables.length b3,.slice a4 m.aD.length b4,.slice none 0 0,.slice a6 m.exports.length b6,.slice a7 m.start.length b7,.slice none 0 0,.slice none 0 0]/\w.ownsRow B 77 3 (.slice a1 m.imports.length b1) m.imports.length (flat (iZ wo m.imports))/\w.ownsRow B 80 3 (.slice a3 m.tables.length b3) m.tables.length (flat (iZ qo m.tables))/\w.ownsRow B 80 3 (.slice a4 m.aD.length b4) m.aD.length (flat (iZ qo m.aD))/\w.ownsRow B 83 3 (.slice a6 m.exports.length b6) m.exports.length (flat (iZ wu m.exports))/\w.ownsRow B 3 1 (.slice a7 m.start.length b7) m.start.length (ints m.start),
 λv w w' ⟨a1,b1,a3,b3,a4,b4,a6,b6,a7,b7,h0,h1,h3,h4,h6,h7⟩ hb=>⟨a1,b1,a3,b3,a4,b4,a6,b6,a7,b7,h0,yn h1 hb,yn h3 hb,yn h4 hb,yn h6 hb,yn h7 hb⟩⟩
def I5 (B:Nat):jK:=⟨λv w=>∃g,v=.pointer (some ⟨g,0,none⟩)/\B<=g/\bG w g (.slice none 0 0) (.slice none 0 0) (.slice none 0 0) (.slice none 0 0) (.slice none 0 0) (.slice none 0 0) (.slice none 0 0) (.slice none 0 0) (.slice none 0 0) (.slice none 0 0),λv w w' ⟨g,h1,h2,h3⟩ hb=>⟨g,h1,h2,h3.on hb⟩⟩
theorem O6 {d:Nat} {w1 w:World} {g:Nat} {m:Mod d} {a1 a3 a4 a6 a7:Option Addr} {b1 b3 b4 b6 b7:Nat} (hB:Below w1.heap.size w1 w) (hg:w1.heap.size<=g) (hK:bG w g (.slice none 0 0) (.slice none 0 0) (.slice none 0 0) (.slice none 0 0) (.slice none 0 0) (.slice none 0 0) (.slice none 0 0) (.slice none 0 0) (.slice none 0 0) (.slice none 0 0))
  (h1:w.ownsRow w1.heap.size 77 3 (.slice a1 m.imports.length b1) m.imports.length (flat (iZ wo m.imports)))
  (h3:w.ownsRow w1.heap.size 80 3 (.slice a3 m.tables.length b3) m.tables.length (flat (iZ qo m.tables)))
  (h4:w.ownsRow w1.heap.size 80 3 (.slice a4 m.aD.length b4) m.aD.length (flat (iZ qo m.aD)))
  (h6:w.ownsRow w1.heap.size 83 3 (.slice a6 m.exports.length b6) m.exports.length (flat (iZ wu m.exports)))
  (h7:w.ownsRow w1.heap.size 3 1 (.slice a7 m.start.length b7) m.start.length (ints m.start)) (l1:m.imports.length<=9223372036854775807) (l3:m.tables.length<=9223372036854775807) (l4:m.aD.length<=9223372036854775807) (l6:m.exports.length<=9223372036854775807) (l7:m.start.length<=9223372036854775807) :
  BD w1 g m (.slice a1 m.imports.length b1) (.slice a3 m.tables.length b3) (.slice a4 m.aD.length b4) (.slice a6 m.exports.length b6) (.slice a7 m.start.length b7) 0 (qZ w g (.slice none 0 0) (.slice a1 m.imports.length b1) (.slice none 0 0) (.slice a3 m.tables.length b3) (.slice a4 m.aD.length b4) (.slice none 0 0) (.slice a6 m.exports.length b6) (.slice a7 m.start.length b7) (.slice none 0 0) (.slice none 0 0)):=by
 have hs:Sub (only w (gU w1.heap.size g (.slice none 0 0))) (only (qZ w g (.slice none 0 0) (.slice a1 m.imports.length b1) (.slice none 0 0) (.slice a3 m.tables.length b3) (.slice a4 m.aD.length b4) (.slice none 0 0) (.slice a6 m.exports.length b6) (.slice a7 m.start.length b7) (.slice none 0 0) (.slice none 0 0)) (gU w1.heap.size g (.slice none 0 0))):=wG λk _ hk=>⟨hk,Jr _ _ _ _ _ _ _ _ _ _ k (sJ.1 hk).2.1⟩;have r1:=Eg (b:=g) SV h1 (own_ne h1 hK (by decide)) l1;have r3:=Eg (b:=g) Ku h3 (own_ne h3 hK (by decide)) l3;have r4:=Eg (b:=g) Ku h4 (own_ne h4 hK (by decide)) l4;have r6:=Eg (b:=g) SW h6 (own_ne h6 hK (by decide)) l6;have r7:=SZ (R:=w) (b:=g) h7 (own_ne h7 hK (by decide)) l7;refine ⟨(.slice none 0 0),hK.all _ _ _ _ _ _ _ _ _ _,jA.nil,⟨Fw hB hg _ _ _ _ _ _ _ _ _ _,hg,⟨r1.imp λ_ _ _ _=>pU.sub hs,r3.imp λ_ _ _ _=>gD.sub hs,r4.imp λ_ _ _ _=>gD.sub hs,r6.imp λ_ _ _ _=>pV.sub hs,r7.sub hs,Ko h3,Ko h4⟩,λh=>absurd h (by omega),λh=>absurd h (by omega),λh=>absurd h (by omega),λh=>absurd h (by omega)⟩⟩
theorem O0 {w:World} {b o:Nat} {x:rY} (h:pU w b o x) (k:Nat) (u:Value) (hk:(wo x)[k]?=some u):w.cell? ⟨b,o+k,none⟩=some u:=Gj h.mod h.name h.type k hk
theorem O2 (x:rY):∀u ∈ wo x,u.oneCell'=true:=AF rfl rfl rfl
theorem Jg {w:World} {b o:Nat} {x:gN} (h:gD w b o x) (k:Nat) (u:Value) (hk:(qo x)[k]?=some u):w.cell? ⟨b,o+k,none⟩=some u:=Gj h.min h.max h.has k hk
theorem Ji (x:gN):∀u ∈ qo x,u.oneCell'=true:=AF rfl rfl rfl
theorem O3 {w:World} {b o:Nat} {x:rZ} (h:pV w b o x) (k:Nat) (u:Value) (hk:(wu x)[k]?=some u):w.cell? ⟨b,o+k,none⟩=some u:=Gj h.name h.kind h.index k hk
theorem O5 (x:rZ):∀u ∈ wu x,u.oneCell'=true:=AF rfl rfl rfl
end aA
end Go.Proofs.YtmfcojpjpgldhaaGreatDoor
