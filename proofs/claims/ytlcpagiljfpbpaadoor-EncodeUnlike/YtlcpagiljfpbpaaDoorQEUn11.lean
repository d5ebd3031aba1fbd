/- Texts that the claim needs. -/
import Derived.Test.YtlcpagiljfpbpaaDoorQEUn7
import Derived.Test.YtlcpagiljfpbpaaDoorQEUn9
import Derived.Test.YtlcpagiljfpbpaaDoorQEUn10
namespace Go.Proofs.YtlcpagiljfpbpaaDoor
open Go.RowKit Rep
set_option linter.unusedVariables false
theorem impInfo:(Tryd.prog.info? 71).map (fun i=>(i.zero.map (·.cells.size),i.size,i.bytes))=some (some 3,3,40):=by kernel_rfl
theorem funInf2:(Tryd.prog.info? 42).map (fun i=>(i.zero.map (·.cells.size),i.size,i.bytes))=some (some 3,3,56):=by kernel_rfl
theorem limInf2:(Tryd.prog.info? 73).map (fun i=>(i.zero.map (·.cells.size),i.size,i.bytes))=some (some 3,3,24):=by kernel_rfl
theorem gloInfo:(Tryd.prog.info? 56).map (fun i=>(i.zero.map (·.cells.size),i.size,i.bytes))=some (some 9,9,120):=by kernel_rfl
theorem expInfo:(Tryd.prog.info? 76).map (fun i=>(i.zero.map (·.cells.size),i.size,i.bytes))=some (some 3,3,32):=by kernel_rfl
theorem elmInfo:(Tryd.prog.info? 52).map (fun i=>(i.zero.map (·.cells.size),i.size,i.bytes))=some (some 8,8,128):=by kernel_rfl
theorem datInfo:(Tryd.prog.info? 54).map (fun i=>(i.zero.map (·.cells.size),i.size,i.bytes))=some (some 8,8,120):=by kernel_rfl
theorem ftInfo':(Tryd.prog.info? 48).map (fun i=>(i.zero.map (·.cells.size),i.size,i.bytes))=some (some 2,2,48):=by kernel_rfl
theorem intInfo':(Tryd.prog.info? 3).map (fun i=>(i.zero.map (·.cells.size),i.size,i.bytes))=some (some 1,1,8):=by kernel_rfl
theorem info_of {P:Program} {t:TypeId} {s b:Nat} (h:(P.info? t).map (fun i=>(i.zero.map (·.cells.size),i.size,i.bytes))=some (some s,s,b)):∃i z,P.info? t=some i/\i.zero=some z/\i.size=s/\i.bytes=b/\z.cells.size=s:=by
 obtain ⟨i,hi,he⟩:=Option.map_eq_some_iff.1 h
 injection he with h1 h2
 injection h2 with h2 h3
 obtain ⟨z,hz,hs⟩:=Option.map_eq_some_iff.1 h1
 exact ⟨i,z,hi,hz,h2,h3,hs⟩
namespace Rep
def BlkM (w:World) (b:Nat) (c0 c1 c2 c3 c4 c5 c6 c7 c8 c9:Value):Prop:=w.heap[b]?=some (.cells #[c0,c1,c2,c3,c4,c5,c6,c7,c8,c9] 32 (0,0))
section Blk
variable {w w':World} {b:Nat} {c0 c1 c2 c3 c4 c5 c6 c7 c8 c9:Value}
theorem BlkM.cell (h:BlkM w b c0 c1 c2 c3 c4 c5 c6 c7 c8 c9) (i:Nat) (v:Value) (hv:#[c0,c1,c2,c3,c4,c5,c6,c7,c8,c9][i]?=some v):w.cell? ⟨b,i,none⟩=some v:=by
 unfold World.cell?;rw [h];exact hv
theorem BlkM.frz (h:BlkM w b c0 c1 c2 c3 c4 c5 c6 c7 c8 c9) (i:Nat):w.frozen? ⟨b,i,none⟩=false:=by
 unfold World.frozen?;rw [h];simp
theorem BlkM.keep (h:BlkM w b c0 c1 c2 c3 c4 c5 c6 c7 c8 c9) (hk:w'.heap[b]?=w.heap[b]?):BlkM w' b c0 c1 c2 c3 c4 c5 c6 c7 c8 c9:=by unfold BlkM at *;rw [hk];exact h
theorem BlkM.lt (h:BlkM w b c0 c1 c2 c3 c4 c5 c6 c7 c8 c9):b<w.heap.size:=(Array.getElem?_eq_some_iff.1 h).1
theorem BlkM.on (h:BlkM w b c0 c1 c2 c3 c4 c5 c6 c7 c8 c9) (hb:Below w.heap.size w w'):BlkM w' b c0 c1 c2 c3 c4 c5 c6 c7 c8 c9:=h.keep (hb.block b h.lt)
theorem BlkM.new (hp:b=w.heap.size):BlkM (w.alloc (.cells #[c0,c1,c2,c3,c4,c5,c6,c7,c8,c9] 32)) b c0 c1 c2 c3 c4 c5 c6 c7 c8 c9:=by
 subst hp;exact heap_alloc_new w _
theorem BlkM.set0 (h:BlkM w b c0 c1 c2 c3 c4 c5 c6 c7 c8 c9) (v:Value):BlkM (w.setCell ⟨b,0,none⟩ v) b v c1 c2 c3 c4 c5 c6 c7 c8 c9:=heap_setCell_same w b 0 _ _ v h
theorem BlkM.set2 (h:BlkM w b c0 c1 c2 c3 c4 c5 c6 c7 c8 c9) (v:Value):BlkM (w.setCell ⟨b,2,none⟩ v) b c0 c1 v c3 c4 c5 c6 c7 c8 c9:=heap_setCell_same w b 2 _ _ v h
theorem BlkM.set5 (h:BlkM w b c0 c1 c2 c3 c4 c5 c6 c7 c8 c9) (v:Value):BlkM (w.setCell ⟨b,5,none⟩ v) b c0 c1 c2 c3 c4 v c6 c7 c8 c9:=heap_setCell_same w b 5 _ _ v h
theorem BlkM.set8 (h:BlkM w b c0 c1 c2 c3 c4 c5 c6 c7 c8 c9) (v:Value):BlkM (w.setCell ⟨b,8,none⟩ v) b c0 c1 c2 c3 c4 c5 c6 c7 v c9:=heap_setCell_same w b 8 _ _ v h
theorem BlkM.set9 (h:BlkM w b c0 c1 c2 c3 c4 c5 c6 c7 c8 c9) (v:Value):BlkM (w.setCell ⟨b,9,none⟩ v) b c0 c1 c2 c3 c4 c5 c6 c7 c8 v:=heap_setCell_same w b 9 _ _ v h
end Blk
def Stab:Type:={ p:Value->World->Prop // ∀v w w',p v w->Below w.heap.size w w'->p v w' }
def sEq (x:Value):Stab:=⟨fun v _=>v=x,fun _ _ _ h _=>h⟩
def Mk (B:Nat) (e:TypeId) (v:Value) (w:World):Prop:=∃g,v=.slice (some ⟨g,0,none⟩) 0 0/\B<=g/\w.heap[g]?=some (.cells #[] e (0,0))
def sMk (B:Nat) (e:TypeId):Stab:=⟨Mk B e,fun v w w' ⟨g,h1,h2,h3⟩ hb=>⟨g,h1,h2,by rw [hb.block g (Array.getElem?_eq_some_iff.1 h3).1];exact h3⟩⟩
def sOw (B:Nat) (e:TypeId) (c n:Nat) (xs:List Value):Stab:=⟨fun v w=>w.ownsRow B e c v n xs,fun v w w' h hb=>own_on h hb⟩
def ints (l:List Int):List Value:=l.map fun z=>Value.int .i64 z
def sInts (B:Nat) (l:List Int):Stab:=sOw B 3 1 l.length (ints l)
def ge (B:Nat) (k:Nat):Bool:=decide (B<=k)
theorem sub_ge {B:Nat} {w w':World} (hb:Below w.heap.size w w'):Sub (only w (ge B)) (only w' (ge B)):=sub_only fun k hk hs=>⟨hs,hb.block k hk⟩
def sAt (B d:Nat) (l:IL d):Stab:=⟨fun v w=>At (only w (ge B)) d v l,fun v w w' h hb=>At.sub (sub_ge hb) d v l h⟩
def InsPtr {d:Nat} (B:Nat) (x:Ins (IL d)) (v:Value) (w:World):Prop:=∃g o,v=.pointer (some ⟨g,o,none⟩)/\InsAt (only w (ge B)) (At (only w (ge B)) d) g o x
def sInsP {d:Nat} (B:Nat) (x:Ins (IL d)):Stab:=⟨InsPtr B x,fun v w w' ⟨g,o,h1,h2⟩ hb=>⟨g,o,h1,h2.sub (sub_ge hb) (At.sub (sub_ge hb) d)⟩⟩
structure InsVals {d:Nat} (R:World) (x:Ins (IL d)) (v4 v5 v6:Value):Prop where
 labels:Ints R v4 x.labels
 body:At R d v5 x.body
 els:At R d v6 x.els
theorem InsVals.sub {d:Nat} {R R':World} {x:Ins (IL d)} {v4 v5 v6:Value} (h:InsVals R x v4 v5 v6) (hs:Sub R R'):InsVals R' x v4 v5 v6:=⟨h.labels.sub hs,At.sub hs _ _ _ h.body,At.sub hs _ _ _ h.els⟩
def cells7 {α:Type} (x:Ins α) (v4 v5 v6:Value):List Value:=[.int .i64 x.op,.int .i64 x.a,.int .i64 x.b,.int .i64 x.n,v4,v5,v6]
def InsAgg {d:Nat} (B:Nat) (x:Ins (IL d)) (v:Value) (w:World):Prop:=∃o4 n4 c4 o5 n5 c5 o6 n6 c6,v=.agg #[.int .i64 x.op,.int .i64 x.a,.int .i64 x.b,.int .i64 x.n,.slice o4 n4 c4,.slice o5 n5 c5,.slice o6 n6 c6]/\InsVals (only w (ge B)) x (.slice o4 n4 c4) (.slice o5 n5 c5) (.slice o6 n6 c6)
def sInsA {d:Nat} (B:Nat) (x:Ins (IL d)):Stab:=⟨InsAgg B x,fun v w w' ⟨o4,n4,c4,o5,n5,c5,o6,n6,c6,h1,h2⟩ hb=>⟨o4,n4,c4,o5,n5,c5,o6,n6,c6,h1,h2.sub (sub_ge hb)⟩⟩
def sOne {α:Type} (B c:Nat) (e:TypeId) (f:World->Nat->Nat->α->Prop) (x:α):Stab:=⟨fun v w=>∃g cs,v=.slice (some ⟨g,0,none⟩) 1 1/\w.heap[g]?=some (.cells (List.toArray cs) e (0,0))/\Piece (only w (ge B)) c f x cs,
 fun v w w' ⟨g,cs,h1,h2,h3⟩ hb=>⟨g,cs,h1,by rw [hb.block g (Array.getElem?_eq_some_iff.1 h2).1];exact h2,h3.sub (sub_ge hb)⟩⟩
def sOneI {d:Nat} (x:Ins (IL d)):Stab:=⟨fun v w=>∃g,v=.slice (some ⟨g,0,none⟩) 1 1/\At w (d+1) v [x],fun v w w' ⟨g,h1,h2⟩ hb=>⟨g,h1,At.on hb (d+1) v _ h2⟩⟩
theorem ints_ge {w:World} {B:Nat} {v:Value} {l:List Int} (h:w.ownsRow B 3 1 v l.length (ints l)) (hn:l.length<=9223372036854775807):Ints (only w (ge B)) v l :=
 ints_only (S':=Since B w none) (fun k hk=>by unfold ge;exact decide_eq_true hk.1) (ints_own h hn)
def Gro {α:Type} (w:World) (B b:Nat) (e:TypeId) (c:Nat) (f:World->Nat->Nat->α->Prop) (l:List α) (j:Nat) (t:Value):Prop :=
 ∃ps:List (α × List Value),ps.map (·.1)=l.take j/\ps.length=j/\w.ownsRow B e c t j (flat ps)/\t.ownBlock≠some b/\∀p ∈ ps,Piece (only w (sel B b t)) c f p.1 p.2
section G
variable {α:Type} {w w':World} {B b:Nat} {e:TypeId} {c:Nat} {f:World->Nat->Nat->α->Prop} {l:List α} {j:Nat} {t:Value}
theorem Gro.nil:Gro w B b e c f l 0 (.slice none 0 0):=⟨[],by simp,rfl,by simpa [flat] using World.ownsRow_nil w B e c,by simp [Value.ownBlock],fun p hp=>by cases hp⟩
theorem Gro.below (h:Gro w B b e c f l j t) (hb:Below w.heap.size w w'):Gro w' B b e c f l j t:=by
 obtain ⟨ps,h1,h2,h3,h4,h5⟩:=h
 exact ⟨ps,h1,h2,own_on h3 hb,h4,fun p hp=>(h5 p hp).sub (sub_below hb)⟩
theorem Gro.slice (h:Gro w B b e c f l j t):∃o k,t=.slice o j k:=by
 obtain ⟨ps,h1,h2,h3,h4,h5⟩:=h
 exact own_slice h3
theorem Gro.lt (h:Gro w B b e c f l j t):∀k,t.ownBlock=some k->B<=k/\k<w.heap.size:=by
 obtain ⟨ps,h1,h2,h3,h4,h5⟩:=h
 exact fun k hk=>h3.lt k hk
theorem Gro.set (h:Gro w B b e c f l j t) (i:Nat) (u:Value):Gro (w.setCell ⟨b,i,none⟩ u) B b e c f l j t:=by
 obtain ⟨ps,h1,h2,h3,h4,h5⟩:=h
 refine ⟨ps,h1,h2,?_,h4,fun p hp=>(h5 p hp).sub sub_set⟩
 refine ⟨h3.1,h3.2.imp id fun ⟨g,cap,cur,k1,k2,k3,k4⟩=>⟨g,cap,cur,k1,k2,?_,k4⟩⟩
 rw [Below.heap_setCell _ _ _ _ (by show g≠b;intro e;subst e;exact h4 (by rw [k1];rfl))]
 exact k3
theorem Gro.snoc {x:α} {cs:List Value} {t':Value} {w':World} (ps:List (α × List Value)) (h1:ps.map (·.1)=l.take j) (h2:ps.length=j) (h4:t.ownBlock≠some b) (h5:∀p ∈ ps,Piece (only w (sel B b t)) c f p.1 p.2)
  (hx:l[j]?=some x) (hp:Piece (only w (sel B b t)) c f x cs) (hb:b<w.heap.size) (ho:w'.ownsRow B e c t' (j+1) (flat ps++cs)) (hg:w.grownBy w' t.ownBlock) (hv:t'.ownBlock=t.ownBlock\/t'.ownBlock=some w.heap.size):Gro w' B b e c f l (j+1) t':=by
 refine ⟨ps++[(x,cs)],?_,by simp [h2],by rw [flat_snoc];exact ho,?_,fun p hp'=>?_⟩
 ·rw [List.map_append,h1,List.take_add_one,hx];rfl
 ·rcases hv with h|h
  ·rw [h];exact h4
  ·rw [h];intro e;injection e with e;omega
 ·rcases List.mem_append.1 hp' with h|h
  ·exact (h5 p h).sub (sub_grown hg hv)
  ·rw [List.mem_singleton.1 h];exact hp.sub (sub_grown hg hv)
theorem Gro.fin (h:Gro w B b e c f l l.length t) (hn:l.length<=9223372036854775807):Row c (f (only w (sel B b (.slice none 0 0)))) t l:=by
 obtain ⟨ps,h1,h2,h3,h4,h5⟩:=h
 have hm:ps.map (·.1)=l:=by rw [h1,List.take_of_length_le (Nat.le_refl _)]
 rw [<- hm]
 refine row_of_own (S:=sel B b t) ps (by rw [h2];exact h3) h5 (fun k hk=>?_) (fun g hg=>?_) (by omega)
 ·obtain ⟨k1,k2,k3⟩:=sel_iff.1 hk
  exact sel_iff.2 ⟨k1,k2,by simp [Value.ownBlock]⟩
 ·exact sel_iff.2 ⟨(h3.lt g hg).1,fun e=>h4 (by rw [<- e];exact hg),by simp [Value.ownBlock]⟩
end G
structure Five (R:World) {d:Nat} (m:Mod d) (c1 c3 c4 c6 c7:Value):Prop where
 imports:Row 3 (ImpAt R) c1 m.imports
 tables:Row 3 (LimAt R) c3 m.tables
 mems:Row 3 (LimAt R) c4 m.mems
 exports:Row 3 (ExpAt R) c6 m.exports
 start:Ints R c7 m.start
 cap3:∀n c,c3=.slice none n c->c=0
 cap4:∀n c,c4=.slice none n c->c=0
theorem own_cap {w:World} {B:Nat} {e:TypeId} {size n:Nat} {v:Value} {xs:List Value} (h:w.ownsRow B e size v n xs):∀n c,v=.slice none n c->c=0:=fun n' c hv=>by
 rcases h.2 with ⟨rfl,_⟩|⟨g,cap,cur,rfl,_⟩
 ·injection hv with _ _ h;exact h.symm
 ·injection hv with h _ _;cases h
structure St (k:Nat) {d:Nat} (w1 wr:World) (b:Nat) (t:Value) (m:Mod d) (c0 c1 c2 c3 c4 c5 c6 c7 c8:Value):Prop where
 below:Below w1.heap.size w1 wr
 base:w1.heap.size<=b
 five:Five (only wr (sel w1.heap.size b t)) m c1 c3 c4 c6 c7
 types:1<=k->Row 2 (FTAt (only wr (sel w1.heap.size b t))) c0 m.types
 funcs:2<=k->Row 3 (FunAt (only wr (sel w1.heap.size b t)) d) c2 m.funcs
 globals:3<=k->Row 9 (GloAt (only wr (sel w1.heap.size b t)) d) c5 m.globals
 elems:4<=k->Row 8 (ElmAt (only wr (sel w1.heap.size b t)) d) c8 m.elems
section S
variable {k d:Nat} {w1 wr wr':World} {b:Nat} {t t':Value} {m:Mod d} {c0 c1 c2 c3 c4 c5 c6 c7 c8:Value}
theorem St.keep (h : St k w1 wr b t m c0 c1 c2 c3 c4 c5 c6 c7 c8) (hs : Sub (only wr (sel w1.heap.size b t)) (only wr' (sel w1.heap.size b t'))) (hb : Below w1.heap.size w1 wr') : St k w1 wr' b t' m c0 c1 c2 c3 c4 c5 c6 c7 c8 :=
  ⟨hb, h.base, ⟨h.five.imports.imp fun _ _ _ _ => ImpAt.sub hs, h.five.tables.imp fun _ _ _ _ => LimAt.sub hs, h.five.mems.imp fun _ _ _ _ => LimAt.sub hs, h.five.exports.imp fun _ _ _ _ => ExpAt.sub hs, h.five.start.sub hs, h.five.cap3, h.five.cap4⟩,
   fun hk => (h.types hk).imp fun _ _ _ _ => FTAt.sub hs, fun hk => (h.funcs hk).imp fun _ _ _ _ => FunAt.sub hs, fun hk => (h.globals hk).imp fun _ _ _ _ => GloAt.sub hs, fun hk => (h.elems hk).imp fun _ _ _ _ => ElmAt.sub hs⟩
theorem sub_nil:Sub (only wr (sel w1.heap.size b t)) (only wr (sel w1.heap.size b (.slice none 0 0))):=sub_only fun k _ hs=>by
 obtain ⟨h1,h2,h3⟩:=sel_iff.1 hs
 exact ⟨sel_iff.2 ⟨h1,h2,by simp [Value.ownBlock]⟩,rfl⟩
end S
end Rep
end Go.Proofs.YtlcpagiljfpbpaaDoor

namespace Go.Proofs.YtlcpagiljfpbpaaDoor
open Go.RowKit Rep
set_option linter.unusedVariables false
namespace Rep
section P
variable {P:Program}
theorem op_app0 {w:World} {o:Oper} {a:Act} {K:Act->World->Prop} {Q:Exit->Act->World->Prop} (s x:Operand) (t:TypeId)
  (ho:o.op=.call { callee:=.builtin .append,args:=#[s,x],argTypes:=#[t,t] })
  (base:Nat) (e:TypeId) {size bytes:Nat} (ht:P.underlying t=some (.slice e)) (hinfo:(P.info? e).map (fun i=>(i.zero.map (·.cells.size),i.size,i.bytes))=some (some size,size,bytes)) (hsz:0<size)
  {v xv:Value} (hs:a.eval s=v) (hmk:Mk base e v w) (hx:a.eval x=xv) (xo:Option Addr) (m c:Nat) (hxv:xv=.slice xo m c) (news:List Value) (hxo:xo=none->m=0) (hl:news.length=m*size) (hnews:∀ad,xo=some ad->∀j u,news[j]?=some u->w.cell? (ad.add j)=some u) (h1:∀u ∈ news,u.oneCell'=true)
  (h63:m<=maxLen) (hbytes:m*bytes<=140737488355328)
  (h:∀v' w',w'.ownsRow base e size v' m news->Below w.heap.size w w'->K (a.put o.dst v') w'):o.wp P a w K Q:=by
 obtain ⟨i,z,hi,hz,hsize,hby,hzs⟩:=info_of hinfo
 obtain ⟨g,rfl,hbg,hg⟩:=hmk
 subst hxv
 obtain ⟨v',w',hr,h2,h3⟩:=run_app0 (P:=P) w base g t o.type e i z size bytes ht hi hz hsize hby hzs hsz hbg hg xo m c news hxo hl hnews h1 h63 hbytes
 unfold Oper.wp
 simp [execOp,ho,resolve,invoke,builtin,hs,hx,hr,Result.andThen]
 exact h v' w' h2 h3
end P
theorem ints_get {w:World} {xo:Option Addr} {m c:Nat} {l:List Int} (h:Ints w (.slice xo m c) l):(xo=none->m=0)/\m=l.length/\∀ad,xo=some ad->∀j u,(ints l)[j]?=some u->w.cell? (ad.add j)=some u:=by
 obtain ⟨o',c',he⟩:=Row.len h
 injection he with _ hm _
 refine ⟨fun h0=>?_,hm,fun ad had=>?_⟩
 ·subst h0;rw [hm,ints_none h];rfl
 ·subst had;exact ints_cells h
theorem ints_slice {R:World} {v:Value} {l:List Int} (h:Ints R v l):v.oneCell'=true:=by
 obtain ⟨o,c,rfl⟩:=Row.len h;rfl
theorem at_slice {R:World} {d:Nat} {v:Value} {l:IL d} (h:At R d v l):v.oneCell'=true:=by
 obtain ⟨o,c,rfl⟩:=At.len d v l h;rfl
theorem piece_ft {R:World} {x:FT} {v1 v2:Value} (h1:Ints R v1 x.params) (h2:Ints R v2 x.results):Piece R 2 FTAt x [v1,v2] :=
 ⟨rfl,fun u hu=>by
  simp only [List.mem_cons,List.mem_nil_iff,or_false] at hu
  rcases hu with rfl|rfl
  ·exact ints_slice h1
  ·exact ints_slice h2,fun R' b o hs hc=>⟨⟨v1,hc 0 _ rfl,h1.sub hs⟩,⟨v2,hc 1 _ rfl,h2.sub hs⟩⟩⟩
theorem piece_fun {R:World} {d:Nat} {x:Fun d} {v1 v2:Value} (h1:Ints R v1 x.locals) (h2:At R d v2 x.body):Piece R 3 (fun R=>FunAt R d) x [.int .i64 x.type,v1,v2] :=
 ⟨rfl,fun u hu=>by
  simp only [List.mem_cons,List.mem_nil_iff,or_false] at hu
  rcases hu with rfl|rfl|rfl
  ·rfl
  ·exact ints_slice h1
  ·exact at_slice h2,fun R' b o hs hc=>⟨hc 0 _ rfl,⟨v1,hc 1 _ rfl,h1.sub hs⟩,⟨v2,hc 2 _ rfl,At.sub hs _ _ _ h2⟩⟩⟩
theorem cells7_one {R:World} {d:Nat} {x:Ins (IL d)} {v4 v5 v6:Value} (h:InsVals R x v4 v5 v6):∀u ∈ cells7 x v4 v5 v6,u.oneCell'=true:=fun u hu=>by
 simp only [cells7,List.mem_cons,List.mem_nil_iff,or_false] at hu
 rcases hu with rfl|rfl|rfl|rfl|rfl|rfl|rfl
 ·rfl
 ·rfl
 ·rfl
 ·rfl
 ·exact ints_slice h.labels
 ·exact at_slice h.body
 ·exact at_slice h.els
theorem insAt_lay7 {R R':World} {d:Nat} {x:Ins (IL d)} {v4 v5 v6:Value} (h:InsVals R x v4 v5 v6) (hs:Sub R R') {b o:Nat} (hc:∀k u,(cells7 x v4 v5 v6)[k]?=some u->R'.cell? ⟨b,o+k,none⟩=some u):InsAt R' (At R' d) b o x :=
 ⟨hc 0 _ rfl,hc 1 _ rfl,hc 2 _ rfl,hc 3 _ rfl,⟨v4,hc 4 _ rfl,h.labels.sub hs⟩,⟨v5,hc 5 _ rfl,At.sub hs _ _ _ h.body⟩,⟨v6,hc 6 _ rfl,At.sub hs _ _ _ h.els⟩⟩
theorem piece_glo {R:World} {d:Nat} {x:Glo d} {v4 v5 v6:Value} (h:InsVals R x.init v4 v5 v6):Piece R 9 (fun R=>GloAt R d) x (.int .i64 x.type :: .bool x.mtb :: cells7 x.init v4 v5 v6) :=
 ⟨rfl,fun u hu=>by
  rcases List.mem_cons.1 hu with rfl|hu
  ·rfl
  ·rcases List.mem_cons.1 hu with rfl|hu
   ·rfl
   ·exact cells7_one h u hu,fun R' b o hs hc=>⟨hc 0 _ rfl,hc 1 _ rfl,insAt_lay7 h hs fun k u hk=>by
  have:=hc (k+2) u (by simpa using hk)
  rw [show o+2+k=o+(k+2) by omega];exact this⟩⟩
theorem cells8 {α:Type} {x:Ins α} {v4 v5 v6 l:Value} {k:Nat} {u:Value} (hk:(cells7 x v4 v5 v6)[k]?=some u):(cells7 x v4 v5 v6++[l])[k]?=some u:=by
 rw [List.getElem?_append_left (List.getElem?_eq_some_iff.1 hk).1];exact hk
theorem piece_elm {R:World} {d:Nat} {x:Elm d} {v4 v5 v6 v:Value} (h:InsVals R x.offset v4 v5 v6) (h2:Ints R v x.funcs):Piece R 8 (fun R=>ElmAt R d) x (cells7 x.offset v4 v5 v6++[v]) :=
 ⟨rfl,fun u hu=>by
  rcases List.mem_append.1 hu with hu|hu
  ·exact cells7_one h u hu
  ·rw [List.mem_singleton.1 hu];exact ints_slice h2,fun R' b o hs hc=>⟨insAt_lay7 h hs fun k u hk=>hc k u (cells8 hk),⟨v,hc 7 _ rfl,h2.sub hs⟩⟩⟩
theorem piece_dat {R:World} {d:Nat} {x:Dat d} {v4 v5 v6:Value} (h:InsVals R x.offset v4 v5 v6):Piece R 8 (fun R=>DatAt R d) x (cells7 x.offset v4 v5 v6++[.string x.bytes]) :=
 ⟨rfl,fun u hu=>by
  rcases List.mem_append.1 hu with hu|hu
  ·exact cells7_one h u hu
  ·rw [List.mem_singleton.1 hu];rfl,fun R' b o hs hc=>⟨insAt_lay7 h hs fun k u hk=>hc k u (cells8 hk),hc 7 _ rfl⟩⟩
def impCs (x:Imp):List Value:=[.string x.mod,.string x.name,.int .i64 x.type]
def limCs (x:Lim):List Value:=[.int .i64 x.min,.int .i64 x.max,.bool x.has]
def expCs (x:Exp):List Value:=[.string x.name,.int .i64 x.kind,.int .i64 x.index]
theorem one3 {a b c:Value} (ha:a.oneCell'=true) (hb:b.oneCell'=true) (hc:c.oneCell'=true):∀u ∈ [a,b,c],u.oneCell'=true:=fun u hu=>by
 simp only [List.mem_cons,List.mem_nil_iff,or_false] at hu
 rcases hu with rfl|rfl|rfl
 ·exact ha
 ·exact hb
 ·exact hc
theorem piece_imp (R:World) (x:Imp):Piece R 3 ImpAt x (impCs x):=⟨rfl,one3 rfl rfl rfl,fun R' b o hs hc=>⟨hc 0 _ rfl,hc 1 _ rfl,hc 2 _ rfl⟩⟩
theorem piece_lim (R:World) (x:Lim):Piece R 3 LimAt x (limCs x):=⟨rfl,one3 rfl rfl rfl,fun R' b o hs hc=>⟨hc 0 _ rfl,hc 1 _ rfl,hc 2 _ rfl⟩⟩
theorem piece_exp (R:World) (x:Exp):Piece R 3 ExpAt x (expCs x):=⟨rfl,one3 rfl rfl rfl,fun R' b o hs hc=>⟨hc 0 _ rfl,hc 1 _ rfl,hc 2 _ rfl⟩⟩
theorem get3 {a b c u:Value} {w:World} {bk o:Nat} (h0:w.cell? ⟨bk,o,none⟩=some a) (h1:w.cell? ⟨bk,o+1,none⟩=some b) (h2:w.cell? ⟨bk,o+2,none⟩=some c) (k:Nat) (hk : [a,b,c][k]?=some u):w.cell? ⟨bk,o+k,none⟩=some u:=by
 match k with
 | 0=>rw [<- hk];exact h0
 | 1=>rw [<- hk];exact h1
 | 2=>rw [<- hk];exact h2
 | k+3=>simp at hk
def withCells {α:Type} (cs:α->List Value) (l:List α):List (α × List Value):=l.map fun x=>(x,cs x)
theorem flat_inv {α:Type} {c:Nat}:∀(ps:List (α × List Value)),(∀p ∈ ps,p.2.length=c)->∀j u,(flat ps)[j]?=some u->∃i k p,j=i*c+k/\ps[i]?=some p/\p.2[k]?=some u
 | [],_,j,u,h=>by simp [flat] at h
 | p :: r,hl,j,u,h=>by
  have hp:p.2.length=c:=hl p (List.mem_cons_self ..)
  rw [show flat (p :: r)=p.2++flat r from rfl] at h
  rcases Nat.lt_or_ge j c with hj|hj
  ·rw [List.getElem?_append_left (by omega)] at h
   exact ⟨0,j,p,by simp,rfl,h⟩
  ·rw [List.getElem?_append_right (by omega),hp] at h
   obtain ⟨i,k,q,h1,h2,h3⟩:=flat_inv r (fun q hq=>hl q (List.mem_cons_of_mem _ hq)) (j-c) u h
   exact ⟨i+1,k,q,by rw [Nat.add_mul];omega,by simpa using h2,h3⟩
section W
variable {α:Type} {c:Nat} {f:World->Nat->Nat->α->Prop} {cs:α->List Value} {w:World} {l:List α}
theorem with_len (hl:∀x,(cs x).length=c):(flat (withCells cs l)).length=l.length*c:=by
 rw [flat_len (c:=c) _ (fun p hp=>by obtain ⟨x,_,rfl⟩:=List.mem_map.1 hp;exact hl x)]
 unfold withCells;rw [List.length_map]
theorem with_one (h1:∀x,∀u ∈ cs x,u.oneCell'=true):∀u ∈ flat (withCells cs l),u.oneCell'=true:=fun u hu=>by
 obtain ⟨p,hp,hu⟩:=List.mem_flatMap.1 hu
 obtain ⟨x,_,rfl⟩:=List.mem_map.1 hp
 exact h1 x u hu
theorem with_cells {xo:Option Addr} {n cap:Nat} (hl:∀x,(cs x).length=c) (hf:∀b o x,f w b o x->∀k u,(cs x)[k]?=some u->w.cell? ⟨b,o+k,none⟩=some u) (h:Row c (f w) (.slice xo n cap) l):(xo=none->n=0)/\n=l.length/\∀ad,xo=some ad->∀j u,(flat (withCells cs l))[j]?=some u->w.cell? (ad.add j)=some u:=by
 obtain ⟨o',c',he⟩:=Row.len h
 injection he with _ hm _
 refine ⟨fun h0=>?_,hm,fun ad had j u hj=>?_⟩
 ·subst h0
  rcases h.2 with ⟨h,_⟩|⟨_,_,_,h,_⟩
  ·rw [hm,h];rfl
  ·injection h with h;cases h
 ·subst had
  obtain ⟨i,k,p,rfl,hi,hk⟩:=flat_inv (c:=c) _ (fun p hp=>by obtain ⟨x,_,rfl⟩:=List.mem_map.1 hp;exact hl x) j u hj
  rw [show withCells cs l=l.map fun x=>(x,cs x) from rfl,List.getElem?_map] at hi
  obtain ⟨x,hx,rfl⟩:=Option.map_eq_some_iff.1 hi
  rcases h.2 with ⟨rfl,_⟩|⟨b,off,cap',hv,hc⟩
  ·simp at hx
  ·injection hv with hv
   injection hv with hv
   subst hv
   rw [add_addr,<- Nat.add_assoc]
   exact hf b _ x (hc i x hx) k u hk
theorem row_with {B b:Nat} {e:TypeId} {v:Value} (hp:∀R x,Piece R c f x (cs x)) (ho:w.ownsRow B e c v l.length (flat (withCells cs l))) (hb:v.ownBlock≠some b) (hn:l.length<=9223372036854775807):Row c (f (only w (sel B b (.slice none 0 0)))) v l:=by
 have hm:(withCells cs l).map (·.1)=l:=by unfold withCells;rw [List.map_map];exact List.map_id l
 have hl:(withCells cs l).length=l.length:=by unfold withCells;rw [List.length_map]
 have:=row_of_own (S:=sel B b (.slice none 0 0)) (S':=sel B b (.slice none 0 0)) (f:=f) (withCells cs l) (by rw [hl];exact ho) (fun p hp'=>by obtain ⟨x,_,rfl⟩:=List.mem_map.1 hp';exact hp _ x) (fun k hk=>hk) (fun g hg=>sel_iff.2 ⟨(ho.lt g hg).1,fun e=>hb (by rw [<- e];exact hg),by simp [Value.ownBlock]⟩) (by omega)
 rw [hm] at this
 exact this
end W
theorem own_ne {w:World} {B b:Nat} {e e':TypeId} {c n:Nat} {v:Value} {xs:List Value} {cur:Array Value} (h:w.ownsRow B e c v n xs) (hb:w.heap[b]?=some (.cells cur e' (0,0))) (he:e≠e'):v.ownBlock≠some b:=by
 rcases h.2 with ⟨rfl,_⟩|⟨g,cap,cur',rfl,_,hg,_⟩
 ·simp [Value.ownBlock]
 ·intro h
  have:g=b:=by simpa [Value.ownBlock] using h
  subst this
  rw [hg] at hb
  injection hb with hb
  injection hb with _ hb
  exact he hb
theorem ints_with {R:World} {B b:Nat} {w:World} {v:Value} {l:List Int} (ho:w.ownsRow B 3 1 v l.length (ints l)) (hb:v.ownBlock≠some b) (hn:l.length<=9223372036854775807):Ints (only w (sel B b (.slice none 0 0))) v l:=by
 have h:=ints_own ho hn
 rcases ho.2 with ⟨rfl,h0⟩|⟨g,cap,cur,rfl,hbg,hg,_,_,_,_⟩
 ·obtain rfl:l = []:=List.length_eq_zero_iff.1 h0
  exact ⟨hn,.inl ⟨rfl,none,0,rfl⟩⟩
 ·refine ⟨hn,.inr ⟨g,0,cap,rfl,fun i x hx=>only_cell.2 ⟨sel_iff.2 ⟨hbg,fun e=>hb (by rw [<- e];rfl),by simp [Value.ownBlock]⟩,?_⟩⟩⟩
  have:=ho.cells (g:=g) rfl i (.int .i64 x) (by unfold ints;rw [List.getElem?_map,hx];rfl)
  rw [add_addr] at this
  rw [Nat.mul_one];exact this
section Blk
variable {w:World} {b:Nat} {c0 c1 c2 c3 c4 c5 c6 c7 c8 c9:Value}
def setAll (w:World) (b:Nat) (d0 d1 d2 d3 d4 d5 d6 d7 d8 d9:Value):World :=
 (((((((((w.setCell ⟨b,0,none⟩ d0).setCell ⟨b,1,none⟩ d1).setCell ⟨b,2,none⟩ d2).setCell ⟨b,3,none⟩ d3).setCell ⟨b,4,none⟩ d4).setCell ⟨b,5,none⟩ d5).setCell ⟨b,6,none⟩ d6).setCell ⟨b,7,none⟩ d7).setCell ⟨b,8,none⟩ d8).setCell ⟨b,9,none⟩ d9
theorem BlkM.all (h:BlkM w b c0 c1 c2 c3 c4 c5 c6 c7 c8 c9) (d0 d1 d2 d3 d4 d5 d6 d7 d8 d9:Value):BlkM (setAll w b d0 d1 d2 d3 d4 d5 d6 d7 d8 d9) b d0 d1 d2 d3 d4 d5 d6 d7 d8 d9:=by
 have h0:BlkM (w.setCell ⟨b,0,none⟩ d0) b d0 c1 c2 c3 c4 c5 c6 c7 c8 c9:=heap_setCell_same _ b 0 _ _ _ h
 have h1:BlkM _ b d0 d1 c2 c3 c4 c5 c6 c7 c8 c9:=heap_setCell_same _ b 1 _ _ d1 h0
 have h2:BlkM _ b d0 d1 d2 c3 c4 c5 c6 c7 c8 c9:=heap_setCell_same _ b 2 _ _ d2 h1
 have h3:BlkM _ b d0 d1 d2 d3 c4 c5 c6 c7 c8 c9:=heap_setCell_same _ b 3 _ _ d3 h2
 have h4:BlkM _ b d0 d1 d2 d3 d4 c5 c6 c7 c8 c9:=heap_setCell_same _ b 4 _ _ d4 h3
 have h5:BlkM _ b d0 d1 d2 d3 d4 d5 c6 c7 c8 c9:=heap_setCell_same _ b 5 _ _ d5 h4
 have h6:BlkM _ b d0 d1 d2 d3 d4 d5 d6 c7 c8 c9:=heap_setCell_same _ b 6 _ _ d6 h5
 have h7:BlkM _ b d0 d1 d2 d3 d4 d5 d6 d7 c8 c9:=heap_setCell_same _ b 7 _ _ d7 h6
 have h8:BlkM _ b d0 d1 d2 d3 d4 d5 d6 d7 d8 c9:=heap_setCell_same _ b 8 _ _ d8 h7
 exact heap_setCell_same _ b 9 _ _ d9 h8
theorem setAll_block (d0 d1 d2 d3 d4 d5 d6 d7 d8 d9:Value) (k:Nat) (hk:k≠b):(setAll w b d0 d1 d2 d3 d4 d5 d6 d7 d8 d9).heap[k]?=w.heap[k]?:=by
 unfold setAll
 repeat rw [Below.heap_setCell _ _ _ _ (by show k≠b;exact hk)]
theorem setAll_below {B:Nat} {w0:World} (h:Below B w0 w) (hb:B<=b) (d0 d1 d2 d3 d4 d5 d6 d7 d8 d9:Value):Below B w0 (setAll w b d0 d1 d2 d3 d4 d5 d6 d7 d8 d9):=by
 unfold setAll
 repeat refine Below.setCell ?_ hb _
 exact h
end Blk
end Rep
end Go.Proofs.YtlcpagiljfpbpaaDoor

