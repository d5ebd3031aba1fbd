/- Texts that the claim needs. -/
import Derived.Test.YtmfcojpjpgldhaaGreatDoorQEBy1
import Derived.Test.YtmfcojpjpgldhaaGreatDoorQEBy2
import Derived.Test.YtmfcojpjpgldhaaGreatDoorQEBy7
import Derived.Test.YtmfcojpjpgldhaaGreatDoorQEBy8
namespace Go.Proofs.YtmfcojpjpgldhaaGreatDoor
open Go.RowKit aA Go.Proofs.Tryz
set_option linter.unusedVariables false
theorem O1:(prog.info? 77).map (λi=>(i.zero.map (·.cells.size),i.size,i.bytes))=some (some 3,3,40):=by kernel_rfl
theorem Qy:(prog.info? 45).map (λi=>(i.zero.map (·.cells.size),i.size,i.bytes))=some (some 3,3,56):=by kernel_rfl
theorem Jh:(prog.info? 80).map (λi=>(i.zero.map (·.cells.size),i.size,i.bytes))=some (some 3,3,24):=by kernel_rfl
theorem Qz:(prog.info? 55).map (λi=>(i.zero.map (·.cells.size),i.size,i.bytes))=some (some 9,9,120):=by kernel_rfl
theorem O4:(prog.info? 83).map (λi=>(i.zero.map (·.cells.size),i.size,i.bytes))=some (some 3,3,32):=by kernel_rfl
theorem QA:(prog.info? 51).map (λi=>(i.zero.map (·.cells.size),i.size,i.bytes))=some (some 8,8,128):=by kernel_rfl
theorem QC:(prog.info? 53).map (λi=>(i.zero.map (·.cells.size),i.size,i.bytes))=some (some 8,8,120):=by kernel_rfl
theorem Qx:(prog.info? 47).map (λi=>(i.zero.map (·.cells.size),i.size,i.bytes))=some (some 2,2,48):=by kernel_rfl
theorem BG:(prog.info? 3).map (λi=>(i.zero.map (·.cells.size),i.size,i.bytes))=some (some 1,1,8):=by kernel_rfl
theorem Au {P:Program} {t:TypeId} {s b:Nat} (h:(P.info? t).map (λi=>(i.zero.map (·.cells.size),i.size,i.bytes))=some (some s,s,b)):∃i z,P.info? t=some i/\i.zero=some z/\i.size=s/\i.bytes=b/\z.cells.size=s:=by
 obtain ⟨i,hi,he⟩:=Option.map_eq_some_iff.1 h;injection he with h1 h2;injection h2 with h2 h3;obtain ⟨z,hz,hs⟩:=Option.map_eq_some_iff.1 h1;exact ⟨i,z,hi,hz,h2,h3,hs⟩
namespace aA
def jK:Type:={ p:Value->World->Prop // ∀v w w',p v w->Below w.heap.size w w'->p v w' }
def bh (x:Value):jK:=⟨λv _=>v=x,λ_ _ _ h _=>h⟩
def Mk (B:Nat) (e:TypeId) (v:Value) (w:World):Prop:=∃g,v=.slice (some ⟨g,0,none⟩) 0 0/\B<=g/\w.heap[g]?=some (.cells #[] e (0,0))
def wm (B:Nat) (e:TypeId):jK:=⟨Mk B e,λv w w' ⟨g,h1,h2,h3⟩ hb=>⟨g,h1,h2,by rw [hb.block g (kD.1 h3).1];exact h3⟩⟩
def BB (B:Nat) (e:TypeId) (c n:Nat) (xs:List Value):jK:=⟨λv w=>w.ownsRow B e c v n xs,λv w w' h hb=>yn h hb⟩
def ints (l:List Int):List Value:=l.map λz=>Value.int .i64 z
def BC (B:Nat) (l:List Int):jK:=BB B 3 1 l.length (ints l)
def ge (B:Nat) (k:Nat):Bool:=decide (B<=k)
theorem qw {B:Nat} {w w':World} (hb:Below w.heap.size w w'):Sub (only w (ge B)) (only w' (ge B)):=wG λk hk hs=>⟨hs,hb.block k hk⟩
def Dl (B d:Nat) (l:IL d):jK:=⟨λv w=>At (only w (ge B)) d v l,λv w w' h hb=>At.sub (qw hb) d v l h⟩
def Su {d:Nat} (B:Nat) (x:Ins (IL d)) (v:Value) (w:World):Prop:=∃g o,v=.pointer (some ⟨g,o,none⟩)/\fA (only w (ge B)) (At (only w (ge B)) d) g o x
def Aj {d:Nat} (B:Nat) (x:Ins (IL d)):jK:=⟨Su B x,λv w w' ⟨g,o,h1,h2⟩ hb=>⟨g,o,h1,h2.sub (qw hb) (At.sub (qw hb) d)⟩⟩
structure tu {d:Nat} (R:World) (x:Ins (IL d)) (v4 v5 v6:Value):Prop where
 labels:Ints R v4 x.labels
 body:At R d v5 x.body
 els:At R d v6 x.els
theorem tu.sub {d:Nat} {R R':World} {x:Ins (IL d)} {v4 v5 v6:Value} (h:tu R x v4 v5 v6) (hs:Sub R R'):tu R' x v4 v5 v6:=⟨h.labels.sub hs,At.sub hs _ _ _ h.body,At.sub hs _ _ _ h.els⟩
def yo {α:Type} (x:Ins α) (v4 v5 v6:Value):List Value:=[.int .i64 x.op,.int .i64 x.a,.int .i64 x.b,.int .i64 x.n,v4,v5,v6]
def Sv {d:Nat} (B:Nat) (x:Ins (IL d)) (v:Value) (w:World):Prop:=∃o4 n4 c4 o5 n5 c5 o6 n6 c6,v=.agg #[.int .i64 x.op,.int .i64 x.a,.int .i64 x.b,.int .i64 x.n,.slice o4 n4 c4,.slice o5 n5 c5,.slice o6 n6 c6]/\tu (only w (ge B)) x (.slice o4 n4 c4) (.slice o5 n5 c5) (.slice o6 n6 c6)
def Ak {d:Nat} (B:Nat) (x:Ins (IL d)):jK:=⟨Sv B x,λv w w' ⟨o4,n4,c4,o5,n5,c5,o6,n6,c6,h1,h2⟩ hb=>⟨o4,n4,c4,o5,n5,c5,o6,n6,c6,h1,h2.sub (qw hb)⟩⟩
def vu {α:Type} (B c:Nat) (e:TypeId) (f:World->Nat->Nat->α->Prop) (x:α):jK:=⟨λv w=>∃g cs,v=.slice (some ⟨g,0,none⟩) 1 1/\w.heap[g]?=some (.cells (List.toArray cs) e (0,0))/\Piece (only w (ge B)) c f x cs,
 λv w w' ⟨g,cs,h1,h2,h3⟩ hb=>⟨g,cs,h1,by rw [hb.block g (kD.1 h2).1];exact h2,h3.sub (qw hb)⟩⟩
def Ai {d:Nat} (x:Ins (IL d)):jK:=⟨λv w=>∃g,v=.slice (some ⟨g,0,none⟩) 1 1/\At w (d+1) v [x],λv w w' ⟨g,h1,h2⟩ hb=>⟨g,h1,At.on hb (d+1) v _ h2⟩⟩
theorem Dr {w:World} {B:Nat} {v:Value} {l:List Int} (h:w.ownsRow B 3 1 v l.length (ints l)) (hn:l.length<=9223372036854775807):Ints (only w (ge B)) v l :=
 Kk (S':=Since B w none) (λk hk=>by unfold ge;exact aC hk.1) (Gd h hn)
def jA {α:Type} (w:World) (B b:Nat) (e:TypeId) (c:Nat) (f:World->Nat->Nat->α->Prop) (l:List α) (j:Nat) (t:Value):Prop :=
 ∃ps:List (α × List Value),ps.map (·.1)=l.take j/\ps.length=j/\w.ownsRow B e c t j (flat ps)/\t.ownBlock≠some b/\∀p ∈ ps,Piece (only w (gU B b t)) c f p.1 p.2
section G
variable {α:Type} {w w':World} {B b:Nat} {e:TypeId} {c:Nat} {f:World->Nat->Nat->α->Prop} {l:List α} {j:Nat} {t:Value}
theorem jA.nil:jA w B b e c f l 0 (.slice none 0 0):=⟨[],by simp,rfl,by simpa [flat] using World.ownsRow_nil w B e c,by simp [Value.ownBlock],λp hp=>by cases hp⟩
theorem jA.below (h:jA w B b e c f l j t) (hb:Below w.heap.size w w'):jA w' B b e c f l j t:=by
 obtain ⟨ps,h1,h2,h3,h4,h5⟩:=h;exact ⟨ps,h1,h2,yn h3 hb,h4,λp hp=>(h5 p hp).sub (zk hb)⟩
theorem jA.slice (h:jA w B b e c f l j t):∃o k,t=.slice o j k:=by
 obtain ⟨ps,h1,h2,h3,h4,h5⟩:=h;exact pq h3
theorem jA.lt (h:jA w B b e c f l j t):∀k,t.ownBlock=some k->B<=k/\k<w.heap.size:=by
 obtain ⟨ps,h1,h2,h3,h4,h5⟩:=h;exact λk hk=>h3.lt k hk
theorem jA.set (h:jA w B b e c f l j t) (i:Nat) (u:Value):jA (w.setCell ⟨b,i,none⟩ u) B b e c f l j t:=by
 obtain ⟨ps,h1,h2,h3,h4,h5⟩:=h;refine ⟨ps,h1,h2,?_,h4,λp hp=>(h5 p hp).sub Kl⟩;refine ⟨h3.1,h3.2.imp id λ⟨g,cap,cur,k1,k2,k3,k4⟩=>⟨g,cap,cur,k1,k2,?_,k4⟩⟩;rw [Below.heap_setCell _ _ _ _ (by show g≠b;intro e;subst e;exact h4 (by rw [k1];rfl))];exact k3
theorem jA.snoc {x:α} {cs:List Value} {t':Value} {w':World} (ps:List (α × List Value)) (h1:ps.map (·.1)=l.take j) (h2:ps.length=j) (h4:t.ownBlock≠some b) (h5:∀p ∈ ps,Piece (only w (gU B b t)) c f p.1 p.2)
  (hx:l[j]?=some x) (hp:Piece (only w (gU B b t)) c f x cs) (hb:b<w.heap.size) (ho:w'.ownsRow B e c t' (j+1) (flat ps++cs)) (hg:w.grownBy w' t.ownBlock) (hv:t'.ownBlock=t.ownBlock\/t'.ownBlock=some w.heap.size):jA w' B b e c f l (j+1) t':=by
 refine ⟨ps++[(x,cs)],?_,by simp [h2],by rw [Sw];exact ho,?_,λp hp'=>?_⟩
 ·rw [zA,h1,List.take_add_one,hx];rfl
 ·rcases hv with h|h
  ·rw [h];exact h4
  rw [h];intro e;injection e with e;omega
 rcases List.mem_append.1 hp' with h|h
 ·exact (h5 p h).sub (Gf hg hv)
 rw [List.mem_singleton.1 h];exact hp.sub (Gf hg hv)
theorem jA.fin (h:jA w B b e c f l l.length t) (hn:l.length<=9223372036854775807):Row c (f (only w (gU B b (.slice none 0 0)))) t l:=by
 obtain ⟨ps,h1,h2,h3,h4,h5⟩:=h;have hm:ps.map (·.1)=l:=by rw [h1,jZ (aI _)]
 rw [<- hm];refine Km (S:=gU B b t) ps (by rw [h2];exact h3) h5 (λk hk=>?_) (λg hg=>?_) (by omega)
 ·obtain ⟨k1,k2,k3⟩:=sJ.1 hk;exact sJ.2 ⟨k1,k2,by simp [Value.ownBlock]⟩
 exact sJ.2 ⟨(h3.lt g hg).1,λe=>h4 (by rw [<- e];exact hg),by simp [Value.ownBlock]⟩
end G
structure Sy (R:World) {d:Nat} (m:Mod d) (c1 c3 c4 c6 c7:Value):Prop where
 imports:Row 3 (pU R) c1 m.imports
 tables:Row 3 (gD R) c3 m.tables
 aD:Row 3 (gD R) c4 m.aD
 exports:Row 3 (pV R) c6 m.exports
 start:Ints R c7 m.start
 mf:∀n c,c3=.slice none n c->c=0
 Kn:∀n c,c4=.slice none n c->c=0
theorem Ko {w:World} {B:Nat} {e:TypeId} {size n:Nat} {v:Value} {xs:List Value} (h:w.ownsRow B e size v n xs):∀n c,v=.slice none n c->c=0:=λn' c hv=>by
 rcases h.2 with ⟨rfl,_⟩|⟨g,cap,cur,rfl,_⟩
 ·injection hv with _ _ h;exact h.symm
 injection hv with h _ _;cases h
structure St (k:Nat) {d:Nat} (w1 wr:World) (b:Nat) (t:Value) (m:Mod d) (c0 c1 c2 c3 c4 c5 c6 c7 c8:Value):Prop where
 below:Below w1.heap.size w1 wr
 base:w1.heap.size<=b
 five:Sy (only wr (gU w1.heap.size b t)) m c1 c3 c4 c6 c7
 types:1<=k->Row 2 (nu (only wr (gU w1.heap.size b t))) c0 m.types
 funcs:2<=k->Row 3 (jW (only wr (gU w1.heap.size b t)) d) c2 m.funcs
 globals:3<=k->Row 9 (mN (only wr (gU w1.heap.size b t)) d) c5 m.globals
 elems:4<=k->Row 8 (mO (only wr (gU w1.heap.size b t)) d) c8 m.elems
section S
variable {k d:Nat} {w1 wr wr':World} {b:Nat} {t t':Value} {m:Mod d} {c0 c1 c2 c3 c4 c5 c6 c7 c8:Value}
theorem St.keep (h : St k w1 wr b t m c0 c1 c2 c3 c4 c5 c6 c7 c8) (hs : Sub (only wr (gU w1.heap.size b t)) (only wr' (gU w1.heap.size b t'))) (hb : Below w1.heap.size w1 wr') : St k w1 wr' b t' m c0 c1 c2 c3 c4 c5 c6 c7 c8 :=
  ⟨hb, h.base, ⟨h.five.imports.imp λ_ _ _ _ => pU.sub hs, h.five.tables.imp λ_ _ _ _ => gD.sub hs, h.five.aD.imp λ_ _ _ _ => gD.sub hs, h.five.exports.imp λ_ _ _ _ => pV.sub hs, h.five.start.sub hs, h.five.mf, h.five.Kn⟩,
   λhk => (h.types hk).imp λ_ _ _ _ => nu.sub hs, λhk => (h.funcs hk).imp λ_ _ _ _ => jW.sub hs, λhk => (h.globals hk).imp λ_ _ _ _ => mN.sub hs, λhk => (h.elems hk).imp λ_ _ _ _ => mO.sub hs⟩
theorem Cs:Sub (only wr (gU w1.heap.size b t)) (only wr (gU w1.heap.size b (.slice none 0 0))):=wG λk _ hs=>by
 obtain ⟨h1,h2,h3⟩:=sJ.1 hs;exact ⟨sJ.2 ⟨h1,h2,by simp [Value.ownBlock]⟩,rfl⟩
end S
end aA
end Go.Proofs.YtmfcojpjpgldhaaGreatDoor
namespace Go.Proofs.YtmfcojpjpgldhaaGreatDoor
open Go.RowKit aA
set_option linter.unusedVariables false
namespace aA
section P
variable {P:Program}
theorem wA {w:World} {o:Oper} {a:Act} {K:Act->World->Prop} {Q:Exit->Act->World->Prop} (s x:Operand) (t:TypeId)
  (ho:o.op=.call { callee:=.builtin .append,args:=#[s,x],argTypes:=#[t,t] })
  (base:Nat) (e:TypeId) {size bytes:Nat} (ht:P.underlying t=some (.slice e)) (hinfo:(P.info? e).map (λi=>(i.zero.map (·.cells.size),i.size,i.bytes))=some (some size,size,bytes)) (hsz:0<size)
  {v xv:Value} (hs:a.eval s=v) (hmk:Mk base e v w) (hx:a.eval x=xv) (xo:Option Addr) (m c:Nat) (hxv:xv=.slice xo m c) (news:List Value) (yK:xo=none->m=0) (hl:news.length=m*size) (hnews:∀ad,xo=some ad->∀j u,news[j]?=some u->w.cell? (ad.add j)=some u) (h1:∀u ∈ news,u.oneCell'=true)
  (h63:m<=maxLen) (hbytes:m*bytes<=140737488355328)
  (h:∀v' w',w'.ownsRow base e size v' m news->Below w.heap.size w w'->K (a.put o.dst v') w'):o.wp P a w K Q:=by
 obtain ⟨i,z,hi,hz,hsize,hby,hzs⟩:=Au hinfo;obtain ⟨g,rfl,hbg,hg⟩:=hmk;subst hxv;obtain ⟨v',w',hr,h2,h3⟩:=ZC (P:=P) w base g t o.type e i z size bytes ht hi hz hsize hby hzs hsz hbg hg xo m c news yK hl hnews h1 h63 hbytes;unfold Oper.wp;simp [execOp,ho,resolve,invoke,builtin,hs,hx,hr,Result.andThen];exact h v' w' h2 h3
end P
theorem BF {w:World} {xo:Option Addr} {m c:Nat} {l:List Int} (h:Ints w (.slice xo m c) l):(xo=none->m=0)/\m=l.length/\∀ad,xo=some ad->∀j u,(ints l)[j]?=some u->w.cell? (ad.add j)=some u:=by
 obtain ⟨o',c',he⟩:=Row.len h;injection he with _ hm _;refine ⟨λh0=>?_,hm,λad had=>?_⟩
 ·subst h0;rw [hm,MG h];rfl
 subst had;exact MF h
theorem Da {R:World} {v:Value} {l:List Int} (h:Ints R v l):v.oneCell'=true:=by
 obtain ⟨o,c,rfl⟩:=Row.len h;rfl
theorem Ie {R:World} {d:Nat} {v:Value} {l:IL d} (h:At R d v l):v.oneCell'=true:=by
 obtain ⟨o,c,rfl⟩:=At.len d v l h;rfl
theorem O9 {R:World} {x:FT} {v1 v2:Value} (h1:Ints R v1 x.params) (h2:Ints R v2 x.results):Piece R 2 nu x [v1,v2] :=
 ⟨rfl,λu hu=>by
  simp only [pR,List.mem_nil_iff,or_false] at hu;rcases hu with rfl|rfl
  ·exact Da h1
  exact Da h2,λR' b o hs hc=>⟨⟨v1,hc 0 _ rfl,h1.sub hs⟩,⟨v2,hc 1 _ rfl,h2.sub hs⟩⟩⟩
theorem Pf {R:World} {d:Nat} {x:gy d} {v1 v2:Value} (h1:Ints R v1 x.locals) (h2:At R d v2 x.body):Piece R 3 (λR=>jW R d) x [.int .i64 x.type,v1,v2] :=
 ⟨rfl,λu hu=>by
  simp only [pR,List.mem_nil_iff,or_false] at hu;rcases hu with rfl|rfl|rfl
  ·rfl
  ·exact Da h1
  exact Ie h2,λR' b o hs hc=>⟨hc 0 _ rfl,⟨v1,hc 1 _ rfl,h1.sub hs⟩,⟨v2,hc 2 _ rfl,At.sub hs _ _ _ h2⟩⟩⟩
theorem Ig {R:World} {d:Nat} {x:Ins (IL d)} {v4 v5 v6:Value} (h:tu R x v4 v5 v6):∀u ∈ yo x v4 v5 v6,u.oneCell'=true:=λu hu=>by
 simp only [yo,pR,List.mem_nil_iff,or_false] at hu;rcases hu with rfl|rfl|rfl|rfl|rfl|rfl|rfl
 ·rfl
 ·rfl
 ·rfl
 ·rfl
 ·exact Da h.labels
 ·exact Ie h.body
 exact Ie h.els
theorem Ih {R R':World} {d:Nat} {x:Ins (IL d)} {v4 v5 v6:Value} (h:tu R x v4 v5 v6) (hs:Sub R R') {b o:Nat} (hc:∀k u,(yo x v4 v5 v6)[k]?=some u->R'.cell? ⟨b,o+k,none⟩=some u):fA R' (At R' d) b o x :=
 ⟨hc 0 _ rfl,hc 1 _ rfl,hc 2 _ rfl,hc 3 _ rfl,⟨v4,hc 4 _ rfl,h.labels.sub hs⟩,⟨v5,hc 5 _ rfl,At.sub hs _ _ _ h.body⟩,⟨v6,hc 6 _ rfl,At.sub hs _ _ _ h.els⟩⟩
theorem Ps {R:World} {d:Nat} {x:qp d} {v4 v5 v6:Value} (h:tu R x.init v4 v5 v6):Piece R 9 (λR=>mN R d) x (.int .i64 x.type :: .bool x.jL :: yo x.init v4 v5 v6) :=
 ⟨rfl,λu hu=>by
  rcases pR.1 hu with rfl|hu
  ·rfl
  ·rcases pR.1 hu with rfl|hu
   ·rfl
   exact Ig h u hu,λR' b o hs hc=>⟨hc 0 _ rfl,hc 1 _ rfl,Ih h hs λk u hk=>by
  have:=hc (k+2) u (by simpa using hk)
  rw [show o+2+k=o+(k+2) by omega];exact this⟩⟩
theorem NB {α:Type} {x:Ins α} {v4 v5 v6 l:Value} {k:Nat} {u:Value} (hk:(yo x v4 v5 v6)[k]?=some u):(yo x v4 v5 v6++[l])[k]?=some u:=by
 rw [zX (fZ.1 hk).1];exact hk
theorem Pz {R:World} {d:Nat} {x:qq d} {v4 v5 v6 v:Value} (h:tu R x.offset v4 v5 v6) (h2:Ints R v x.funcs):Piece R 8 (λR=>mO R d) x (yo x.offset v4 v5 v6++[v]) :=
 ⟨rfl,λu hu=>by
  rcases List.mem_append.1 hu with hu|hu
  ·exact Ig h u hu
  rw [List.mem_singleton.1 hu];exact Da h2,λR' b o hs hc=>⟨Ih h hs λk u hk=>hc k u (NB hk),⟨v,hc 7 _ rfl,h2.sub hs⟩⟩⟩
theorem PH {R:World} {d:Nat} {x:Dat d} {v4 v5 v6:Value} (h:tu R x.offset v4 v5 v6):Piece R 8 (λR=>nR R d) x (yo x.offset v4 v5 v6++[.string x.bytes]) :=
 ⟨rfl,λu hu=>by
  rcases List.mem_append.1 hu with hu|hu
  ·exact Ig h u hu
  rw [List.mem_singleton.1 hu];rfl,λR' b o hs hc=>⟨Ih h hs λk u hk=>hc k u (NB hk),hc 7 _ rfl⟩⟩
def wo (x:rY):List Value:=[.string x.mod,.string x.name,.int .i64 x.type]
def qo (x:gN):List Value:=[.int .i64 x.min,.int .i64 x.max,.bool x.has]
def wu (x:rZ):List Value:=[.string x.name,.int .i64 x.kind,.int .i64 x.index]
theorem AF {a b c:Value} (ha:a.oneCell'=true) (hb:b.oneCell'=true) (hc:c.oneCell'=true):∀u ∈ [a,b,c],u.oneCell'=true:=λu hu=>by
 simp only [pR,List.mem_nil_iff,or_false] at hu;rcases hu with rfl|rfl|rfl
 ·exact ha
 ·exact hb
 exact hc
theorem SV (R:World) (x:rY):Piece R 3 pU x (wo x):=⟨rfl,AF rfl rfl rfl,λR' b o hs hc=>⟨hc 0 _ rfl,hc 1 _ rfl,hc 2 _ rfl⟩⟩
theorem Ku (R:World) (x:gN):Piece R 3 gD x (qo x):=⟨rfl,AF rfl rfl rfl,λR' b o hs hc=>⟨hc 0 _ rfl,hc 1 _ rfl,hc 2 _ rfl⟩⟩
theorem SW (R:World) (x:rZ):Piece R 3 pV x (wu x):=⟨rfl,AF rfl rfl rfl,λR' b o hs hc=>⟨hc 0 _ rfl,hc 1 _ rfl,hc 2 _ rfl⟩⟩
theorem Gj {a b c u:Value} {w:World} {bk o:Nat} (h0:w.cell? ⟨bk,o,none⟩=some a) (h1:w.cell? ⟨bk,o+1,none⟩=some b) (h2:w.cell? ⟨bk,o+2,none⟩=some c) (k:Nat) (hk : [a,b,c][k]?=some u):w.cell? ⟨bk,o+k,none⟩=some u:=by
 match k with
 | 0=>rw [<- hk];exact h0
 | 1=>rw [<- hk];exact h1
 | 2=>rw [<- hk];exact h2
 | k+3=>simp at hk
def iZ {α:Type} (cs:α->List Value) (l:List α):List (α × List Value):=l.map λx=>(x,cs x)
theorem NC {α:Type} {c:Nat}:∀(ps:List (α × List Value)),(∀p ∈ ps,p.2.length=c)->∀j u,(flat ps)[j]?=some u->∃i k p,j=i*c+k/\ps[i]?=some p/\p.2[k]?=some u
 | [],_,j,u,h=>by simp [flat] at h
 | p :: r,hl,j,u,h=>by
  have hp:p.2.length=c:=hl p (List.mem_cons_self ..);rw [show flat (p :: r)=p.2++flat r from rfl] at h;rcases Nat.lt_or_ge j c with hj|hj
  ·rw [zX (by omega)] at h;exact ⟨0,j,p,by simp,rfl,h⟩
  rw [zx (by omega),hp] at h;obtain ⟨i,k,q,h1,h2,h3⟩:=NC r (λq hq=>hl q (List.mem_cons_of_mem _ hq)) (j-c) u h;exact ⟨i+1,k,q,by rw [Nat.add_mul];omega,by simpa using h2,h3⟩
section W
variable {α:Type} {c:Nat} {f:World->Nat->Nat->α->Prop} {cs:α->List Value} {w:World} {l:List α}
theorem Dp (hl:∀x,(cs x).length=c):(flat (iZ cs l)).length=l.length*c:=by
 rw [CZ (c:=c) _ (λp hp=>by obtain ⟨x,_,rfl⟩:=List.mem_map.1 hp;exact hl x)];unfold iZ;rw [oI]
theorem Dq (h1:∀x,∀u ∈ cs x,u.oneCell'=true):∀u ∈ flat (iZ cs l),u.oneCell'=true:=λu hu=>by
 obtain ⟨p,hp,hu⟩:=List.mem_flatMap.1 hu;obtain ⟨x,_,rfl⟩:=List.mem_map.1 hp;exact h1 x u hu
theorem Dn {xo:Option Addr} {n cap:Nat} (hl:∀x,(cs x).length=c) (hf:∀b o x,f w b o x->∀k u,(cs x)[k]?=some u->w.cell? ⟨b,o+k,none⟩=some u) (h:Row c (f w) (.slice xo n cap) l):(xo=none->n=0)/\n=l.length/\∀ad,xo=some ad->∀j u,(flat (iZ cs l))[j]?=some u->w.cell? (ad.add j)=some u:=by
 obtain ⟨o',c',he⟩:=Row.len h;injection he with _ hm _;refine ⟨λh0=>?_,hm,λad had j u hj=>?_⟩
 ·subst h0;rcases h.2 with ⟨h,_⟩|⟨_,_,_,h,_⟩
  ·rw [hm,h];rfl
  injection h with h;cases h
 subst had;obtain ⟨i,k,p,rfl,hi,hk⟩:=NC (c:=c) _ (λp hp=>by obtain ⟨x,_,rfl⟩:=List.mem_map.1 hp;exact hl x) j u hj;rw [show iZ cs l=l.map λx=>(x,cs x) from rfl,List.getElem?_map] at hi;obtain ⟨x,hx,rfl⟩:=Option.map_eq_some_iff.1 hi;rcases h.2 with ⟨rfl,_⟩|⟨b,off,cap',hv,hc⟩
 ·simp at hx
 injection hv with hv;injection hv with hv;subst hv;rw [rC,<- Nat.add_assoc];exact hf b _ x (hc i x hx) k u hk
theorem Eg {B b:Nat} {e:TypeId} {v:Value} (hp:∀R x,Piece R c f x (cs x)) (ho:w.ownsRow B e c v l.length (flat (iZ cs l))) (hb:v.ownBlock≠some b) (hn:l.length<=9223372036854775807):Row c (f (only w (gU B b (.slice none 0 0)))) v l:=by
 have hm:(iZ cs l).map (·.1)=l:=by unfold iZ;rw [List.map_map];exact List.map_id l
 have hl:(iZ cs l).length=l.length:=by unfold iZ;rw [oI]
 have:=Km (S:=gU B b (.slice none 0 0)) (S':=gU B b (.slice none 0 0)) (f:=f) (iZ cs l) (by rw [hl];exact ho) (λp hp'=>by obtain ⟨x,_,rfl⟩:=List.mem_map.1 hp';exact hp _ x) (λk hk=>hk) (λg hg=>sJ.2 ⟨(ho.lt g hg).1,λe=>hb (by rw [<- e];exact hg),by simp [Value.ownBlock]⟩) (by omega)
 rw [hm] at this;exact this
end W
theorem own_ne {w:World} {B b:Nat} {e e':TypeId} {c n:Nat} {v:Value} {xs:List Value} {cur:Array Value} (h:w.ownsRow B e c v n xs) (hb:w.heap[b]?=some (.cells cur e' (0,0))) (he:e≠e'):v.ownBlock≠some b:=by
 rcases h.2 with ⟨rfl,_⟩|⟨g,cap,cur',rfl,_,hg,_⟩
 ·simp [Value.ownBlock]
 intro h
 have:g=b:=by simpa [Value.ownBlock] using h
 subst this;rw [hg] at hb;injection hb with hb;injection hb with _ hb;exact he hb
theorem SZ {R:World} {B b:Nat} {w:World} {v:Value} {l:List Int} (ho:w.ownsRow B 3 1 v l.length (ints l)) (hb:v.ownBlock≠some b) (hn:l.length<=9223372036854775807):Ints (only w (gU B b (.slice none 0 0))) v l:=by
 have h:=Gd ho hn;rcases ho.2 with ⟨rfl,h0⟩|⟨g,cap,cur,rfl,hbg,hg,_,_,_,_⟩
 ·obtain rfl:l = []:=mM.1 h0;exact ⟨hn,.inl ⟨rfl,none,0,rfl⟩⟩
 refine ⟨hn,.inr ⟨g,0,cap,rfl,λi x hx=>rG.2 ⟨sJ.2 ⟨hbg,λe=>hb (by rw [<- e];rfl),by simp [Value.ownBlock]⟩,?_⟩⟩⟩
 have:=ho.cells (g:=g) rfl i (.int .i64 x) (by unfold ints;rw [List.getElem?_map,hx];rfl)
 rw [rC] at this;rw [Nat.mul_one];exact this
section dY
variable {w:World} {b:Nat} {c0 c1 c2 c3 c4 c5 c6 c7 c8 c9:Value}
def qZ (w:World) (b:Nat) (d0 d1 d2 d3 d4 d5 d6 d7 d8 d9:Value):World :=
 (((((((((w.setCell ⟨b,0,none⟩ d0).setCell ⟨b,1,none⟩ d1).setCell ⟨b,2,none⟩ d2).setCell ⟨b,3,none⟩ d3).setCell ⟨b,4,none⟩ d4).setCell ⟨b,5,none⟩ d5).setCell ⟨b,6,none⟩ d6).setCell ⟨b,7,none⟩ d7).setCell ⟨b,8,none⟩ d8).setCell ⟨b,9,none⟩ d9
theorem bG.all (h:bG w b c0 c1 c2 c3 c4 c5 c6 c7 c8 c9) (d0 d1 d2 d3 d4 d5 d6 d7 d8 d9:Value):bG (qZ w b d0 d1 d2 d3 d4 d5 d6 d7 d8 d9) b d0 d1 d2 d3 d4 d5 d6 d7 d8 d9:=by
 have h0:bG (w.setCell ⟨b,0,none⟩ d0) b d0 c1 c2 c3 c4 c5 c6 c7 c8 c9:=heap_setCell_same _ b 0 _ _ _ h;have h1:bG _ b d0 d1 c2 c3 c4 c5 c6 c7 c8 c9:=heap_setCell_same _ b 1 _ _ d1 h0;have h2:bG _ b d0 d1 d2 c3 c4 c5 c6 c7 c8 c9:=heap_setCell_same _ b 2 _ _ d2 h1;have h3:bG _ b d0 d1 d2 d3 c4 c5 c6 c7 c8 c9:=heap_setCell_same _ b 3 _ _ d3 h2;have h4:bG _ b d0 d1 d2 d3 d4 c5 c6 c7 c8 c9:=heap_setCell_same _ b 4 _ _ d4 h3;have h5:bG _ b d0 d1 d2 d3 d4 d5 c6 c7 c8 c9:=heap_setCell_same _ b 5 _ _ d5 h4;have h6:bG _ b d0 d1 d2 d3 d4 d5 d6 c7 c8 c9:=heap_setCell_same _ b 6 _ _ d6 h5;have h7:bG _ b d0 d1 d2 d3 d4 d5 d6 d7 c8 c9:=heap_setCell_same _ b 7 _ _ d7 h6;have h8:bG _ b d0 d1 d2 d3 d4 d5 d6 d7 d8 c9:=heap_setCell_same _ b 8 _ _ d8 h7;exact heap_setCell_same _ b 9 _ _ d9 h8
theorem Jr (d0 d1 d2 d3 d4 d5 d6 d7 d8 d9:Value) (k:Nat) (hk:k≠b):(qZ w b d0 d1 d2 d3 d4 d5 d6 d7 d8 d9).heap[k]?=w.heap[k]?:=by
 unfold qZ
 repeat rw [Below.heap_setCell _ _ _ _ (by show k≠b;exact hk)]
theorem Fw {B:Nat} {w0:World} (h:Below B w0 w) (hb:B<=b) (d0 d1 d2 d3 d4 d5 d6 d7 d8 d9:Value):Below B w0 (qZ w b d0 d1 d2 d3 d4 d5 d6 d7 d8 d9):=by
 unfold qZ
 repeat refine Below.setCell ?_ hb _
 exact h
end dY
end aA
end Go.Proofs.YtmfcojpjpgldhaaGreatDoor
