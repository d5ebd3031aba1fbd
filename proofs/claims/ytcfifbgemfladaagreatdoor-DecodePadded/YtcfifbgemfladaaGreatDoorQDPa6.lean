/- Texts that the claim needs. -/
import Derived.Test.YtcfifbgemfladaaGreatDoorQDPa2
import Derived.Test.YtcfifbgemfladaaGreatDoorQDPa3
import Derived.Deep.RegionLaw
import Derived.Test.YtcfifbgemfladaaGreatDoorQDPa4
import Derived.Test.YtcfifbgemfladaaGreatDoorQDPa5
import Derived.Test.YtcfifbgemfladaaGreatDoorQDPa1
import Derived.Defers
import Derived.Recover
import Derived.Laws.Pointers
import Derived.Lib.ValidU
import Derived.Ground.NamesProg
import Derived.WalkMore
import Derived.Shelf.Lay
import Derived.Shelf.Unicode.ValidAny
namespace Go.Proofs.YtcfifbgemfladaaGreatDoor
open Go.RowKit au Go.Proofs.Tryz
set_option linter.unusedVariables false
namespace au
def fG (w:AG) (p:Nat) (op a b n:Int) (v4 v5 v6:Value):Prop:=w.heap[p]?=some (.cells #[.int .i64 op,.int .i64 a,.int .i64 b,.int .i64 n,v4,v5,v6] 59 (0,0))
theorem fG.new (w:AG) (p:Nat) (op a b n:Int) (v4 v5 v6:Value) (hp:p=w.heap.size):fG (w.alloc (.cells #[.int .i64 op,.int .i64 a,.int .i64 b,.int .i64 n,v4,v5,v6] 59)) p op a b n v4 v5 v6:=by
 subst hp;exact heap_alloc_new w _
theorem fG.cell {w:AG} {p:Nat} {op a b n:Int} {v4 v5 v6:Value} (h:fG w p op a b n v4 v5 v6) (i:Nat) (v:Value) (hv:#[Value.int .i64 op,.int .i64 a,.int .i64 b,.int .i64 n,v4,v5,v6][i]?=some v):w.cell? ⟨p,i,none⟩=some v:=by
 unfold World.cell?;rw [h];exact hv
theorem fG.bT {w:AG} {b:Nat} {op a c n:Int} {v4 v5 v6:Value} (h:fG w b op a c n v4 v5 v6):w.cell? ⟨b,0,none⟩=some (Value.int .i64 op)/\w.cell? ⟨b,1,none⟩=some (Value.int .i64 a)/\w.cell? ⟨b,2,none⟩=some (Value.int .i64 c)/\w.cell? ⟨b,3,none⟩=some (Value.int .i64 n)/\w.cell? ⟨b,4,none⟩=some (v4)/\w.cell? ⟨b,5,none⟩=some (v5)/\w.cell? ⟨b,6,none⟩=some (v6):=⟨h.cell 0 _ rfl,h.cell 1 _ rfl,h.cell 2 _ rfl,h.cell 3 _ rfl,h.cell 4 _ rfl,h.cell 5 _ rfl,h.cell 6 _ rfl⟩
theorem fG.ax {w:AG} {p:Nat} {op a b n:Int} {v4 v5 v6:Value} (h:fG w p op a b n v4 v5 v6) (i:Nat):w.frozen? ⟨p,i,none⟩=false:=by
 unfold World.frozen?;rw [h];simp
theorem fG.keep {w w':AG} {p:Nat} {op a b n:Int} {v4 v5 v6:Value} (h:fG w p op a b n v4 v5 v6) (hk:w'.heap[p]?=w.heap[p]?):fG w' p op a b n v4 v5 v6:=by unfold fG at *;rw [hk];exact h
theorem fG.JS {w:AG} {p:Nat} {op a b n:Int} {v4 v5 v6:Value} (h:fG w p op a b n v4 v5 v6) (v:Value):fG (w.setCell ⟨p,4,none⟩ v) p op a b n v v5 v6:=heap_setCell_same w p 4 _ _ v h
theorem fG.Ba {w:AG} {p:Nat} {op a b n:Int} {v4 v5 v6:Value} (h:fG w p op a b n v4 v5 v6) (v:Value):fG (w.setCell ⟨p,5,none⟩ v) p op a b n v4 v v6:=heap_setCell_same w p 5 _ _ v h
theorem fG.JH {w:AG} {p:Nat} {op a b n:Int} {v4 v5 v6:Value} (h:fG w p op a b n v4 v5 v6) (v:Value):fG (w.setCell ⟨p,6,none⟩ v) p op a b n v4 v5 v:=heap_setCell_same w p 6 _ _ v h
theorem fG.lt {w:AG} {p:Nat} {op a b n:Int} {v4 v5 v6:Value} (h:fG w p op a b n v4 v5 v6):p<w.heap.size:=(gX.1 h).1
def But (p:Nat) (w w':AG):Prop:=w.grownBy w' (some p)
theorem But.below {p:Nat} {w w':AG} (h:But p w w'):Below p w w'\/w.heap.size<p:=by
 by_cases hp:p<=w.heap.size
 ·exact .inl ⟨h.os,h.tape,h.output,h.size,λk hk=>h.block k (by omega) (λe=>by injection e with e;omega)⟩
 exact .inr (by omega)
def Pc (d:Nat):Type:=Ins (IL d) × Value × Value × Value
def sJ {d:Nat} (p:Pc d):List Value:=[.int .i64 p.1.op,.int .i64 p.1.a,.int .i64 p.1.b,.int .i64 p.1.n,p.2.1,p.2.2.1,p.2.2.2]
def xx {d:Nat} (ps:List (Pc d)):List Value:=ps.flatMap sJ
structure yz {d:Nat} (w:AG) (S:Nat->Prop) (p:Pc d):Prop where
 labels:aU w S p.2.1 p.1.labels
 body:az w S d p.2.2.1 p.1.body
 els:az w S d p.2.2.2 p.1.els
theorem yz.keep {d:Nat} {w w':AG} {S S':Nat->Prop} (hk:∀k,S k->S' k/\w'.heap[k]?=w.heap[k]?) {p:Pc d} (h:yz w S p):yz w' S' p:=⟨h.labels.keep hk,az.keep hk _ _ _ h.body,az.keep hk _ _ _ h.els⟩
theorem Rz {d:Nat}:∀(ps:List (Pc d)) (i:Nat) (p:Pc d),ps[i]?=some p->∀k v,(sJ p)[k]?=some v->(xx ps)[i*7+k]?=some v
 | [],_,_,h,_,_,_=>by simp at h
 | q :: r,0,p,h,k,v,hv=>by
  have:q=p:=by simpa using h
  subst this;show (sJ q++xx r)[0*7+k]?=some v;have hk:k<(sJ q).length:=(gq.1 hv).1;rw [Nat.zero_mul,Nat.zero_add,vB hk];exact hv
 | q :: r,i+1,p,h,k,v,hv=>by
  have h':r[i]?=some p:=by simpa using h
  show (sJ q++xx r)[(i+1)*7+k]?=some v;rw [uV (by show 7<=_;omega),show (i+1)*7+k-(sJ q).length=i*7+k by show (i+1)*7+k-7=_;omega];exact Rz r i p h' k v hv
theorem acI {d:Nat} (ps:List (Pc d)) (h:∀p ∈ ps,p.2.1.oneCell'=true/\p.2.2.1.oneCell'=true/\p.2.2.2.oneCell'=true):∀u ∈ xx ps,u.oneCell'=true:=by
 intro u hu;obtain ⟨p,hp,hu⟩:=List.mem_flatMap.1 hu;obtain ⟨h1,h2,h3⟩:=h p hp;simp only [sJ,lI,List.mem_nil_iff,or_false] at hu;rcases hu with rfl|rfl|rfl|rfl|rfl|rfl|rfl
 ·rfl
 ·rfl
 ·rfl
 ·rfl
 ·exact h1
 ·exact h2
 exact h3
theorem acJ {d:Nat} {w:AG} {B:Nat} {t:Value} (l:List (Ins (IL d))) (ps:List (Pc d)) (hm:ps.map (·.1)=l) (hn:l.length<=9223372036854775807) (ho:w.ownsRow B 59 7 t ps.length (xx ps)) (hp:∀p ∈ ps,yz w (Since B w t.ownBlock) p) :
  az w (Since B w none) (d+1) t l:=by
 have hlen:ps.length=l.length:=by rw [<- hm,jS]
 have hup:∀k,Since B w t.ownBlock k->Since B w none k/\w.heap[k]?=w.heap[k]?:=λk hk=>⟨⟨hk.1,hk.2.1,by simp⟩,rfl⟩;rcases ho.2 with ⟨rfl,h0⟩|⟨g,cap,cur,rfl,hbg,hg,_,_,_,_⟩
 ·have:l = []:=iZ.1 (by omega)
  subst this;exact ⟨by simp,.inl ⟨rfl,none,0,rfl⟩⟩
 have hgl:g<w.heap.size:=(gX.1 hg).1;refine ⟨hn,.inr ⟨g,0,cap,by rw [hlen],λi x hx=>?_⟩⟩;have hi:i<ps.length:=by rw [hlen];exact (gq.1 hx).1
 obtain ⟨p,hpi⟩:∃p,ps[i]?=some p:=⟨_,bG hi⟩
 have hpx:p.1=x:=by
  have:(ps.map (·.1))[i]?=some p.1:=by rw [List.getElem?_map,hpi];rfl
  rw [hm,hx] at this;exact (Option.some.inj this).symm
 subst hpx;have hok:=(hp p (iF hpi)).keep hup
 have hc:∀k v,(sJ p)[k]?=some v->w.cell? ⟨g,0+i*7+k,none⟩=some v:=λk v hv=>by
  have:=ho.cells (g:=g) rfl (i*7+k) v (Rz ps i p hpi k v hv)
  rw [uH] at this;rw [Nat.add_assoc];exact this
 exact ⟨⟨hbg,hgl,by simp⟩,hc 0 _ rfl,hc 1 _ rfl,hc 2 _ rfl,hc 3 _ rfl,⟨_,hc 4 _ rfl,hok.labels⟩,⟨_,hc 5 _ rfl,hok.body⟩,⟨_,hc 6 _ rfl,hok.els⟩⟩
end au
theorem Gh:(prog.info? 3).map (λi=>(i.zero,i.size,i.bytes))=some (some (.int .i64 0),1,8):=by kernel_rfl
theorem acK:(prog.info? 59).map (λi=>(i.zero,i.size,i.bytes))=some (some (.agg #[.int .i64 0,.int .i64 0,.int .i64 0,.int .i64 0,.slice none 0 0,.slice none 0 0,.slice none 0 0]),7,104):=by kernel_rfl
namespace au
theorem JL {w:AG} {B:Nat} {v:Value} {l:List Int} (h:w.ownsRow B 3 1 v l.length (l.map λz=>Value.int .i64 z)) (hn:l.length<=9223372036854775807):aU w (Since B w none) v l:=by
 rcases h.2 with ⟨rfl,h0⟩|⟨g,cap,cur,rfl,hbg,hg,_,_,_,_⟩
 ·obtain rfl:l = []:=iZ.1 h0;exact ⟨hn,.inl ⟨rfl,none,0,rfl⟩⟩
 have hgl:g<w.heap.size:=(gX.1 hg).1;refine ⟨hn,.inr ⟨g,0,cap,rfl,λi x hx=>⟨⟨hbg,hgl,by simp⟩,?_⟩⟩⟩
 have:=h.cells (g:=g) rfl i (.int .i64 x) (by rw [List.getElem?_map,hx];rfl)
 rw [uH] at this;rw [Nat.mul_one];exact this
theorem Jg {w w':AG} {B:Nat} {e:TypeId} {size:Nat} {v:Value} {n:Nat} {xs:List Value} (h:w.ownsRow B e size v n xs) (hb:AS w w'):w'.ownsRow B e size v n xs :=
 ⟨h.1,h.2.imp id λ⟨g,cap,cur,h1,h2,h3,h4⟩=>⟨g,cap,cur,h1,h2,by rw [hb.block g (gX.1 h3).1];exact h3,h4⟩⟩
def Bw {d:Nat} (x:Ins (IL d)) (a b c:Value):Pc d:=(x,a,b,c)
theorem acL {d:Nat} (ps:List (Pc d)) (p:Pc d):xx (ps++[p])=xx ps++sJ p:=by
 unfold xx;rw [zx];simp
theorem acM {d:Nat} (p:Pc d) (h1:p.2.1.oneCell'=true) (h2:p.2.2.1.oneCell'=true) (h3:p.2.2.2.oneCell'=true):∀u ∈ sJ p,u.oneCell'=true:=by
 have:=acI [p] (λq hq=>by rw [List.mem_singleton.1 hq];exact ⟨h1,h2,h3⟩)
 intro u hu;exact this u (by show u ∈ List.flatMap sJ [p];simpa using hu)
theorem acN {d:Nat} {w:AG} {g:Nat} {x:Ins (IL d)} {v4 v5 v6:Value} (h:fG w g x.op x.a x.b x.n v4 v5 v6):∀j u,(sJ (Bw x v4 v5 v6))[j]?=some u->w.cell? ((⟨g,0,none⟩:Addr).add j)=some u:=λj u hj=>by
 rw [uH,Nat.zero_add];refine h.cell j u ?_;rw [<- hj];exact gz
theorem rU {w:AG} {B:Nat} {e:TypeId} {size:Nat} {v:Value} {n:Nat} {xs:List Value} (h:w.ownsRow B e size v n xs):∃o c,v=.slice o n c:=by
 rcases h.2 with ⟨rfl,rfl⟩|⟨g,cap,cur,rfl,_⟩
 ·exact ⟨none,0,rfl⟩
 exact ⟨_,_,rfl⟩
end au
end Go.Proofs.YtcfifbgemfladaaGreatDoor
namespace Go.Proofs.YtcfifbgemfladaaGreatDoor
open Go.RowKit au
set_option linter.unusedVariables false
set_option linter.unusedVariables false
namespace au
end au
namespace au
structure Jf {d:Nat} (R:AG) (x:Ins (IL d)) (v4 v5 v6:Value):Prop where
 labels:Ints R v4 x.labels
 body:At R d v5 x.body
 els:At R d v6 x.els
theorem Jf.sub {d:Nat} {R R':AG} {x:Ins (IL d)} {v4 v5 v6:Value} (h:Jf R x v4 v5 v6) (hs:Sub R R'):Jf R' x v4 v5 v6:=⟨h.labels.sub hs,At.sub hs _ _ _ h.body,At.sub hs _ _ _ h.els⟩
def rT {α:Type} (w:AG) (B b:Nat) (e:TypeId) (c:Nat) (f:AG->Nat->Nat->α->Prop) (l:List α) (j:Nat) (t:Value):Prop :=
 ∃ps:List (α × List Value),ps.map (·.1)=l.take j/\ps.length=j/\w.ownsRow B e c t j (flat ps)/\t.ownBlock≠some b/\∀p ∈ ps,Piece (only w (qB B b t)) c f p.1 p.2
section G
variable {α:Type} {w w':AG} {B b:Nat} {e:TypeId} {c:Nat} {f:AG->Nat->Nat->α->Prop} {l:List α} {j:Nat} {t:Value}
theorem rT.nil:rT w B b e c f l 0 (.slice none 0 0):=⟨[],by simp,rfl,by simpa [flat] using World.ownsRow_nil w B e c,by simp [Value.ownBlock],λp hp=>by cases hp⟩
theorem rT.below (h:rT w B b e c f l j t) (hb:AS w w'):rT w' B b e c f l j t:=by
 obtain ⟨ps,h1,h2,h3,h4,h5⟩:=h;exact ⟨ps,h1,h2,Jg h3 hb,h4,λp hp=>(h5 p hp).sub (Xh hb)⟩
theorem rT.slice (h:rT w B b e c f l j t):∃o k,t=.slice o j k:=by
 obtain ⟨ps,h1,h2,h3,h4,h5⟩:=h;exact rU h3
theorem rT.lt (h:rT w B b e c f l j t):∀k,t.ownBlock=some k->B<=k/\k<w.heap.size:=by
 obtain ⟨ps,h1,h2,h3,h4,h5⟩:=h;exact λk hk=>h3.lt k hk
theorem rT.set (h:rT w B b e c f l j t) (i:Nat) (u:Value):rT (w.setCell ⟨b,i,none⟩ u) B b e c f l j t:=by
 obtain ⟨ps,h1,h2,h3,h4,h5⟩:=h;refine ⟨ps,h1,h2,?_,h4,λp hp=>(h5 p hp).sub Xi⟩;refine ⟨h3.1,h3.2.imp id λ⟨g,cap,cur,k1,k2,k3,k4⟩=>⟨g,cap,cur,k1,k2,?_,k4⟩⟩;rw [Below.heap_setCell _ _ _ _ (by show g≠b;intro e;subst e;exact h4 (by rw [k1];rfl))];exact k3
theorem rT.fin (h:rT w B b e c f l l.length t) (hn:l.length<=9223372036854775807):Row c (f (only w (qB B b (.slice none 0 0)))) t l:=by
 obtain ⟨ps,h1,h2,h3,h4,h5⟩:=h;have hm:ps.map (·.1)=l:=by rw [h1,qm (aC _)]
 rw [<- hm];refine Xj (S:=qB B b t) ps (by rw [h2];exact h3) h5 (λk hk=>?_) (λg hg=>?_) (by omega)
 ·obtain ⟨k1,k2,k3⟩:=Gg.1 hk;exact Gg.2 ⟨k1,k2,by simp [Value.ownBlock]⟩
 exact Gg.2 ⟨(h3.lt g hg).1,λe=>h4 (by rw [<- e];exact hg),by simp [Value.ownBlock]⟩
end G
structure Xk (R:AG) {d:Nat} (m:Mod d) (c1 c3 c4 c6 c7:Value):Prop where
 imports:Row 3 (uu R) c1 m.imports
 tables:Row 3 (mG R) c3 m.tables
 aF:Row 3 (mG R) c4 m.aF
 exports:Row 3 (uA R) c6 m.exports
 start:Ints R c7 m.start
 Nw:∀n c,c3=.slice none n c->c=0
 Xl:∀n c,c4=.slice none n c->c=0
structure St (k:Nat) {d:Nat} (w1 wr:AG) (b:Nat) (t:Value) (m:Mod d) (c0 c1 c2 c3 c4 c5 c6 c7 c8:Value):Prop where
 below:AS w1 wr
 base:w1.heap.size<=b
 five:Xk (only wr (qB w1.heap.size b t)) m c1 c3 c4 c6 c7
 types:1<=k->Row 2 (uY (only wr (qB w1.heap.size b t))) c0 m.types
 funcs:2<=k->Row 3 (rL (only wr (qB w1.heap.size b t)) d) c2 m.funcs
 globals:3<=k->Row 9 (uw (only wr (qB w1.heap.size b t)) d) c5 m.globals
 elems:4<=k->Row 8 (uC (only wr (qB w1.heap.size b t)) d) c8 m.elems
section S
variable {k d:Nat} {w1 wr wr':AG} {b:Nat} {t t':Value} {m:Mod d} {c0 c1 c2 c3 c4 c5 c6 c7 c8:Value}
theorem St.keep (h : St k w1 wr b t m c0 c1 c2 c3 c4 c5 c6 c7 c8) (hs : Sub (only wr (qB w1.heap.size b t)) (only wr' (qB w1.heap.size b t'))) (hb : AS w1 wr') : St k w1 wr' b t' m c0 c1 c2 c3 c4 c5 c6 c7 c8 :=
  ⟨hb, h.base, ⟨h.five.imports.imp λ_ _ _ _ => uu.sub hs, h.five.tables.imp λ_ _ _ _ => mG.sub hs, h.five.aF.imp λ_ _ _ _ => mG.sub hs, h.five.exports.imp λ_ _ _ _ => uA.sub hs, h.five.start.sub hs, h.five.Nw, h.five.Xl⟩,
   λhk => (h.types hk).imp λ_ _ _ _ => uY.sub hs, λhk => (h.funcs hk).imp λ_ _ _ _ => rL.sub hs, λhk => (h.globals hk).imp λ_ _ _ _ => uw.sub hs, λhk => (h.elems hk).imp λ_ _ _ _ => uC.sub hs⟩
end S
end au
end Go.Proofs.YtcfifbgemfladaaGreatDoor
namespace Go.Proofs.YtcfifbgemfladaaGreatDoor
open Go.RowKit au Enc Go.Lib
set_option linter.unusedVariables false
namespace Enc
theorem CN:∀(f:Nat) (n:Int),0<=n->n.toNat<=f->∀x ∈ af.uB n,0<=x/\x<=255
 | 0,n,h0,hf=>by
  rw [af.vq h0 (by omega)];intro x hx;rw [List.mem_singleton.1 hx];omega
 | f+1,n,h0,hf=>by
  by_cases h:n<128
  ·rw [af.vq h0 h];intro x hx;rw [List.mem_singleton.1 hx];omega
  rw [af.BM (by omega)];intro x hx;rcases lI.1 hx with rfl|hx
  ·omega
  exact CN f (n / 128) (by omega) (by omega) x hx
theorem CO:∀(f:Nat) (n:Int),n.natAbs<=f->∀x ∈ af.sB n,0<=x/\x<=255
 | 0,n,hf=>by
  rw [af.qx (by omega)];intro x hx;rw [List.mem_singleton.1 hx];omega
 | f+1,n,hf=>by
  by_cases h:-64<=n/\n<=63
  ·rw [af.qx h];intro x hx;rw [List.mem_singleton.1 hx];omega
  rw [af.wN h];intro x hx;rcases lI.1 hx with rfl|hx
  ·omega
  exact CO f (n / 128) (by omega) x hx
theorem VN (xs:List Int) (h:∀x ∈ xs,0<=x/\x<=255):strCells (strOfNums xs)=cells xs:=by
 unfold strCells cells;rw [strOfNums_data,List.map_map];refine List.map_congr_left λx hx=>?_;obtain ⟨h0,h1⟩:=h x hx;show Value.int .u8 ((UInt8.ofNat x.toNat).toNat:Int)=Value.int .u8 x;congr 1;rw [UInt8.toNat_ofNat'];omega
def nums (s:AH):List Int:=s.data.toList.map λb=>(b.toNat:Int)
theorem BN (s:AH):(nums s).length=s.size:=by unfold nums;rw [jS,Array.length_toList];rfl
theorem M9 (s:AH):strCells s=cells (nums s):=by unfold strCells cells nums;rw [List.map_map];rfl
theorem VO {P:Program} (w:AG) (base:Nat) (t u ty e:TypeId) (i:TypeInfo) (ht:P.underlying t=some (.slice e)) (hu:P.underlying u=some .string) (hi:P.info? e=some i) (hz:i.zero=some (.int .u8 0)) (hsize:i.size=1) (hby:i.bytes=1)
  (v:Value) (n:Nat) (xs:List Value) (hown:w.ownsRow base e 1 v n xs) (s:AH) (h63:n+s.size<=maxLen) (hbytes:n+s.size<=140737488355328) (hbase:base<=w.heap.size) :
  ∃v' w',(Builtin.append_ #[t,u] ty #[v,.string s]).run P w=.ok v' w'/\w'.ownsRow base e 1 v' (n+s.size) (xs++strCells s)/\w.grownBy w' v.ownBlock/\(v'.ownBlock=v.ownBlock\/v'.ownBlock=some w.heap.size):=by
 obtain ⟨v',w',hr,h2,h3,h4⟩:=run_append_own_string (P:=P) w base t u ty e i ht hu hi hz hsize hby v n xs hown s h63 hbytes hbase;refine ⟨v',w',hr,h2,h3,?_⟩;have hsmall:n+s.size<=9223372036854775807:=by simp only [maxLen] at h63;omega
 have hxl:xs.length=n:=by simpa using hown.1
 rcases hown.2 with ⟨rfl,rfl⟩|⟨g,cap,cur,rfl,hbg,hg,hnc,hcm,hcs,htake⟩
 ·by_cases hm:s.size=0
  ·left;rw [h4.2 ⟨rfl,hm⟩]
  rw [run_append_nil_string (P:=P) w t u ty e i (.int .u8 0) ht hu hi hz s (by omega) (by omega) (by rw [hby];omega)] at hr;injection hr with hv _;right;rw [<- hv];rfl
 by_cases hroom:n+s.size<=cap
 ·have hcs':cur.size=cap:=by simpa using hcs
  rw [run_append_room_string (P:=P) w t u ty e i ht hu hi hsize g n cap cur hg s hroom (by omega)] at hr;injection hr with hv _;left;rw [<- hv];rfl
 have holds:∀j u,xs[j]?=some u->w.cell? ((⟨g,0,none⟩:Addr).add j)=some u:=hown.cells (g:=g) rfl;rw [run_append_grow_string (P:=P) w t u ty e i (.int .u8 0) ht hu hi hz ⟨g,0,none⟩ n cap xs (by rw [hsize];simpa using hxl) holds s (by omega) (by omega) (by rw [hby];exact growslice_fits (by omega) (by omega))] at hr;injection hr with hv _;right;rw [<- hv];rfl
end Enc
def one (b:Bool):Int:=if b then 1 else 0
theorem abm {P:Program} {w:AG} {ops:Array Oper} {rest:List Oper} {o:Oper} {a:Act} {Q:Exit->Act->AG->Prop} (hgd:o.guard=none) (sl x:Operand) (t u:TypeId)
  (ho:o.op=.call { callee:=.builtin .append,args:=#[sl,x],argTypes:=#[t,u] })
  (base:Nat) (e:TypeId) (i:TypeInfo) (ht:P.underlying t=some (.slice e)) (hu:P.underlying u=some .string) (hi:P.info? e=some i) (hz:i.zero=some (.int .u8 0)) (hsize:i.size=1) (hby:i.bytes=1)
  (v:Value) (n:Nat) (xs:List Value) (hs:a.eval sl=v) (hown:w.ownsRow base e 1 v n xs) (s:AH) (hx:a.eval x=.string s) (h63:n+s.size<=maxLen) (hbytes:n+s.size<=140737488355328) (hbase:base<=w.heap.size)
  (h:∀v' w',w'.ownsRow base e 1 v' (n+s.size) (xs++strCells s)->w.grownBy w' v.ownBlock->(v'.ownBlock=v.ownBlock\/v'.ownBlock=some w.heap.size)->wpList P ops Q rest (a.put o.dst v') w'):wpList P ops Q (o :: rest) a w:=by
 refine wpList_plain hgd λK hK=>?_;obtain ⟨v',w',hr,h2,h3,h4⟩:=VO (P:=P) w base t u o.type e i ht hu hi hz hsize hby v n xs hown s h63 hbytes hbase;unfold Oper.wp execOp;simp only [ho,resolve,invoke,builtin,Sem.run_bind,Sem.run_pure,Result.andThen_ok,List.map_toArray,List.map_cons,List.map_nil,hs,hx,hr];exact hK _ _ (h v' w' h2 h3 h4)
namespace Enc
def mY (l:List Int):List Int:=af.uB (l.length:Int)++l.flatMap af.uB
def qE (l:List Int):List Int:=af.uB (l.length:Int)++l.flatMap λx=>[x%256]
theorem RG {f:Int->List Int} (k:Nat):∀(l:List Int),(∀x ∈ l,(f x).length<=k)->(l.flatMap f).length<=l.length*k
 | [],_=>by simp
 | x :: r,h=>by
  rw [List.flatMap_cons,aT,ik,Nat.add_mul];have h1:=h x (List.mem_cons_self ..);have h2:=RG k r λy hy=>h y (List.mem_cons_of_mem _ hy);omega
end Enc
namespace Enc
def fS {α:Type} (rec:α->List Int) (sz:α->Nat) (x:Ins α):List Int :=
 [x.op%256]++(if form x.op=1 then (if x.op=63\/x.op=64 then [0] else [])
  else if form x.op=2\/form x.op=3 then (if x.a=0 then [64] else [x.a%256])++rec x.body++(if 0<sz x.els then [5]++rec x.els else [])++[11]
  else if form x.op=4\/form x.op=6 then af.uB x.a
  else if form x.op=5 then mY x.labels++af.uB x.a
  else if form x.op=7 then af.uB x.a++[0]
  else if form x.op=8 then af.uB x.a++af.uB x.b
  else if form x.op=9 then af.sB x.n else [])
def mF {α:Type} (rec:α->List Int) (sz:α->Nat) (l:List (Ins α)):List Int:=l.flatMap (fS rec sz)
def aW:(d:Nat)->IL d->List Int
 | 0,_=>[]
 | d+1,l=>mF (aW d) (size d) l
structure dK {α:Type} (rec:α->Prop) (x:Ins α):Prop where
 a:4<=form x.op->form x.op<=8->0<=x.a/\x.a<=4294967295
 b:form x.op=8->0<=x.b/\x.b<=4294967295
 n:form x.op=9->-9223372036854775808<=x.n/\x.n<=9223372036854775807
 labels:form x.op=5->∀y ∈ x.labels,0<=y/\y<=4294967295
 few:x.labels.length<=10000000
 body:rec x.body
 els:rec x.els
def Rg:(d:Nat)->IL d->Prop
 | 0,_=>True
 | d+1,l=>∀x,x ∈ (show List (Ins (IL d)) from l)->dK (Rg d) x
theorem Kept.box {p p3:Nat} {v v':Value} {w w':AG} {op a b n:Int} {v4 v5 v6:Value} (h:Kept p v w v' w') (hb:fG w p3 op a b n v4 v5 v6) (hp:p3≠p) (ho:some p3≠v.ownBlock):fG w' p3 op a b n v4 v5 v6/\some p3≠v'.ownBlock :=
 ⟨hb.keep (h.block p3 hb.lt hp ho),λe=>by
  rcases h.own p3 e.symm with h1|h1
  ·exact ho h1.symm
  have:=hb.lt;omega⟩
end Enc
namespace Enc
def So (bs add b:List Int):Prop:=wL bs add b/\b.length<=bs.length+add.length
theorem So.refl (bs:List Int):So bs [] bs:=⟨wL.refl bs,by simp⟩
def Cw {d:Nat} (x:Ins (IL d)):List Int:=(if x.a=0 then [64] else [x.a%256])++aW d x.body++(if 0<size d x.els then [5]++aW d x.els else [])++[11]
end Enc
set_option linter.unusedVariables false
namespace Enc
theorem ad9 {α:Type} {rec:α->List Int} {sz:α->Nat} {l:List (Ins α)} {j:Nat} {x:Ins α} (hx:l[j]?=some x):mF rec sz (l.take (j+1))=mF rec sz (l.take j)++fS rec sz x:=by
 unfold mF;rw [List.take_add_one,hx,zx];simp
end Enc
set_option linter.unusedVariables false
namespace Enc
def told (bs:List Int):Value:=if 262144<bs.length then .tuple #[.string ⟨#[]⟩,.int .i64 2] else .tuple #[.string (strOfNums bs),.int .i64 0]
end Enc
namespace Enc
def Bx (w:AG) (b:Nat) (t:TypeId) (cs:Array Value):Prop:=w.heap[b]?=some (.cells cs t (0,0))
theorem Bx.cell {w:AG} {b:Nat} {t:TypeId} {cs:Array Value} (h:Bx w b t cs) (i:Nat) (v:Value) (hv:cs[i]?=some v):w.cell? ⟨b,i,none⟩=some v:=by
 unfold World.cell?;rw [h];exact hv
theorem Bx.bT {w:AG} {b:Nat} {t:TypeId} {c0 c1 c2 c3 c4 c5 c6:Value} (h:Bx w b t #[c0,c1,c2,c3,c4,c5,c6]):w.cell? ⟨b,0,none⟩=some c0/\w.cell? ⟨b,1,none⟩=some c1/\w.cell? ⟨b,2,none⟩=some c2/\w.cell? ⟨b,3,none⟩=some c3/\w.cell? ⟨b,4,none⟩=some c4/\w.cell? ⟨b,5,none⟩=some c5/\w.cell? ⟨b,6,none⟩=some c6:=⟨h.cell 0 _ rfl,h.cell 1 _ rfl,h.cell 2 _ rfl,h.cell 3 _ rfl,h.cell 4 _ rfl,h.cell 5 _ rfl,h.cell 6 _ rfl⟩
theorem Bx.nW {w:AG} {b:Nat} {t:TypeId} {c0 c1 c2 c3 c4 c5 c6 c7 c8 c9:Value} (h:Bx w b t #[c0,c1,c2,c3,c4,c5,c6,c7,c8,c9]):w.cell? ⟨b,0,none⟩=some c0/\w.cell? ⟨b,1,none⟩=some c1/\w.cell? ⟨b,2,none⟩=some c2/\w.cell? ⟨b,3,none⟩=some c3/\w.cell? ⟨b,4,none⟩=some c4/\w.cell? ⟨b,5,none⟩=some c5/\w.cell? ⟨b,6,none⟩=some c6/\w.cell? ⟨b,7,none⟩=some c7/\w.cell? ⟨b,8,none⟩=some c8/\w.cell? ⟨b,9,none⟩=some c9:=⟨h.cell 0 _ rfl,h.cell 1 _ rfl,h.cell 2 _ rfl,h.cell 3 _ rfl,h.cell 4 _ rfl,h.cell 5 _ rfl,h.cell 6 _ rfl,h.cell 7 _ rfl,h.cell 8 _ rfl,h.cell 9 _ rfl⟩
theorem Bx.lt {w:AG} {b:Nat} {t:TypeId} {cs:Array Value} (h:Bx w b t cs):b<w.heap.size:=(gX.1 h).1
theorem Bx.new {w:AG} {b:Nat} {t:TypeId} {cs:Array Value} (hp:b=w.heap.size):Bx (w.alloc (.cells cs t)) b t cs:=by
 subst hp;exact heap_alloc_new w _
theorem Kept.bx {p p3:Nat} {v v':Value} {w w':AG} {t:TypeId} {cs:Array Value} (h:Kept p v w v' w') (hb:Bx w p3 t cs) (hp:p3≠p) (ho:some p3≠v.ownBlock):Bx w' p3 t cs/\some p3≠v'.ownBlock :=
 ⟨by unfold Bx at *;rw [h.block p3 (gX.1 hb).1 hp ho];exact hb,λe=>by
  rcases h.own p3 e.symm with h1|h1
  ·exact ho h1.symm
  have:=hb.lt;omega⟩
def eT (x:gu):List Int:=[one x.has]++af.uB x.min++(if x.has then af.uB x.max else [])
end Enc
namespace Enc
end Enc
set_option linter.unusedVariables false
namespace Enc
structure Iv (w w0:AG) (d bk o:Nat) (x:Ins (IL d)):Prop where
 op:w.cell? ⟨bk,o,none⟩=.some (.int .i64 x.op)
 a:w.cell? ⟨bk,o+1,none⟩=.some (.int .i64 x.a)
 b:w.cell? ⟨bk,o+2,none⟩=.some (.int .i64 x.b)
 n:w.cell? ⟨bk,o+3,none⟩=.some (.int .i64 x.n)
 labels:∃v,w.cell? ⟨bk,o+4,none⟩=.some v/\Ints w0 v x.labels
 body:∃v,w.cell? ⟨bk,o+5,none⟩=.some v/\At w0 d v x.body
 els:∃v,w.cell? ⟨bk,o+6,none⟩=.some v/\At w0 d v x.els
end Enc
namespace Enc
theorem G8 {w w0:AG} {d:Nat} {x:Ins (IL d)} {v4 v5 v6:Value} (h4:Ints w0 v4 x.labels) (h5:At w0 d v5 x.body) (h6:At w0 d v6 x.els):Iv (w.alloc (.cells #[.int .i64 x.op,.int .i64 x.a,.int .i64 x.b,.int .i64 x.n,v4,v5,v6] 59)) w0 d w.heap.size 0 x:=by
 have hc:∀(i:Nat) (v:Value),#[Value.int .i64 x.op,.int .i64 x.a,.int .i64 x.b,.int .i64 x.n,v4,v5,v6][i]?=some v->(w.alloc (.cells #[.int .i64 x.op,.int .i64 x.a,.int .i64 x.b,.int .i64 x.n,v4,v5,v6] 59)).cell? ⟨w.heap.size,i,none⟩=some v:=λi v h=>by
  rw [World.cell?_alloc_at _ 59 _ _ rfl];exact h
 exact ⟨hc _ _ rfl,hc _ _ rfl,hc _ _ rfl,hc _ _ rfl,⟨_,hc _ _ rfl,h4⟩,⟨_,hc _ _ rfl,h5⟩,⟨_,hc _ _ rfl,h6⟩⟩
end Enc
namespace Enc
def sU (acc:List (Int × Int)) (t:Int):List (Int × Int) :=
 match acc.getLast? with
 | some (c,t')=>if t'=t then acc.dropLast++[(c+1,t)] else acc++[(1,t)]
 | none=>[(1,t)]
def rn (l:List Int):List (Int × Int):=l.foldl sU []
theorem acG (l:List Int) (t:Int):rn (l++[t])=sU (rn l) t:=by unfold rn;rw [List.foldl_append];rfl
theorem Mr {l:List Int} {j:Nat} {t:Int} (h:l[j]?=some t):rn (l.take (j+1))=sU (rn (l.take j)) t:=by
 rw [List.take_add_one,h];exact acG _ _
theorem MI {pre:List (Int × Int)} {c t:Int}:sU (pre++[(c,t)]) t=pre++[(c+1,t)]:=by
 unfold sU;simp
theorem MK {pre:List (Int × Int)} {c t s:Int} (h:s≠t):sU (pre++[(c,s)]) t=(pre++[(c,s)])++[(1,t)]:=by
 unfold sU;simp [h]
theorem Mt (t:Int):sU [] t = [(1,t)]:=rfl
theorem zY (l:List Int):(rn l).length<=l.length/\∀x ∈ rn l,1<=x.1/\x.1<=l.length/\x.2 ∈ l:=by
 have key:∀j,j<=l.length->(rn (l.take j)).length<=j/\∀x ∈ rn (l.take j),1<=x.1/\x.1<=j/\x.2 ∈ l:=by
  intro j
  induction j with
  | zero=>intro _;simp [rn]
  | succ j ih =>
   intro hj;obtain ⟨h1,h2⟩:=ih (by omega);obtain ⟨t,ht⟩:∃t,l[j]?=some t:=⟨_,bG (by omega)⟩;have hm:=iF ht;rw [Mr ht];unfold sU;split
   ·rename_i c t' hl;have hmem:(c,t') ∈ rn (l.take j):=List.mem_of_getLast? hl;obtain ⟨g1,g2,g3⟩:=h2 _ hmem;split
    ·refine ⟨by rw [aT,List.length_dropLast];simp;omega,λx hx=>?_⟩;rcases List.mem_append.1 hx with hx|hx
     ·have:=h2 x (List.dropLast_subset _ hx);exact ⟨this.1,by have:=this.2.1;omega,this.2.2⟩
     rw [List.mem_singleton.1 hx];exact ⟨by show 1<=c+1;simp at g1;omega,by show c+1<=_;simp at g2;omega,hm⟩
    refine ⟨by simp;omega,λx hx=>?_⟩;rcases List.mem_append.1 hx with hx|hx
    ·have:=h2 x hx;exact ⟨this.1,by have:=this.2.1;omega,this.2.2⟩
    rw [List.mem_singleton.1 hx];exact ⟨by show (1:Int)<=1;omega,by show (1:Int)<=_;omega,hm⟩
   refine ⟨by simp,λx hx=>?_⟩;rw [List.mem_singleton.1 hx];exact ⟨by show (1:Int)<=1;omega,by show (1:Int)<=_;omega,hm⟩
 have:=key l.length (aC _)
 rwa [qm (aC _)] at this
def wH (l:List Int):List Int:=af.uB ((rn l).length:Int)++(rn l).flatMap λx=>af.uB x.1++[x.2%256]
def df (b:List Int):List Int:=af.uB (b.length:Int)++b
def cQ {d:Nat} (x:fF d):List Int:=wH x.locals++(aW d x.body++[11])
def jH (s:AH):List Int:=af.uB (s.size:Int)++nums s
def kI (x:FT):List Int:=[96]++qE x.params++qE x.results
def kJ (x:oG):List Int:=jH x.mod++jH x.name++[0]++af.uB x.type
def kN (x:oH):List Int:=jH x.name++[x.kind%256]++af.uB x.index
def jV {d:Nat} (x:mZ d):List Int:=[x.type%256]++[one x.je]++(fS (aW d) (size d) x.init++[11])
def jy {d:Nat} (x:lX d):List Int:=[0]++(fS (aW d) (size d) x.offset++[11])++mY x.funcs
def jA {d:Nat} (x:Dat d):List Int:=[0]++(fS (aW d) (size d) x.offset++[11])++jH x.bytes
def eu (id:Int) (n:Nat) (b:List Int):List Int:=if n=0 then [] else [id]++df b
def aG {α:Type} (f:α->List Int) (l:List α):List Int:=af.uB (l.length:Int)++l.flatMap f
def mR {d:Nat} (m:Mod d):List Int :=
 [0,97,115,109,1,0,0,0]++eu 1 m.types.length (aG kI m.types)++eu 2 m.imports.length (aG kJ m.imports)++eu 3 m.funcs.length (aG (λx=>af.uB x.type) m.funcs) ++
 eu 4 m.tables.length (aG (λx=>[112]++eT x) m.tables)++eu 5 m.aF.length (aG eT m.aF)++eu 6 m.globals.length (aG jV m.globals)++eu 7 m.exports.length (aG kN m.exports) ++
 eu 8 m.start.length (m.start.flatMap af.uB)++eu 9 m.elems.length (aG jy m.elems)++eu 10 m.funcs.length (aG (λx=>df (cQ x)) m.funcs)++eu 11 m.aA.length (aG jA m.aA)
theorem um {α:Type} {f:α->List Int} {l:List α} {j:Nat} {x:α} (hx:l[j]?=some x):(l.take (j+1)).flatMap f=(l.take j).flatMap f++f x:=by
 rw [List.take_add_one,hx,zx];simp
end Enc
end Go.Proofs.YtcfifbgemfladaaGreatDoor
namespace Go.Proofs.YtcfifbgemfladaaGreatDoor
open Go.RowKit au
set_option linter.unusedVariables false
namespace au
end au
set_option linter.unusedVariables false
set_option linter.unusedVariables false
set_option linter.unusedVariables false
set_option linter.unusedVariables false
end Go.Proofs.YtcfifbgemfladaaGreatDoor
namespace Go.Proofs
open Go.RowKit Go.Shelf Go.Lib Go.Proofs.Tryz
shelf_lay Lays.n196 Nm 196 at Tryz as Tryz.laysValid
namespace YtcfifbgemfladaaGreatDoor
open Go.RowKit au
namespace au
def nm (s:AH):Bool:=decide ((s.size:Int)<=64)&&Lib.validD s.data.toList
end au
def mI (w:AG):Prop:=Lib.Utf8Tabs (Tryz.laysValid_ren.g 3) (Tryz.laysValid_ren.g 4) w
end YtcfifbgemfladaaGreatDoor
end Go.Proofs
namespace Go.Proofs.YtcfifbgemfladaaGreatDoor
open Go.RowKit au
set_option linter.unusedVariables false
namespace au
def ui {d:Nat} (x:Ins (IL d)):Bool:=rG x.op&&nO (sn x)
def G9 (t:FT):Bool:=t.params.all typ&&t.results.all typ
def D7 (i:oG):Bool:=(nm i.mod&&(nm i.name&&true))&&(idx i.type&&true)
def Bq {d:Nat} (f:fF d):Bool:=(idx f.type&&true)&&f.locals.all typ
def cu (l:gu):Bool:=(idx l.min&&(idx l.max&&true))&&(l.has || l.max==0)
def D8 {d:Nat} (g:mZ d):Bool:=(typ g.type&&true)&&ui g.init
def D9 (e:oH):Bool:=(nm e.name&&true)&&((decide (0<=e.kind)&&decide (e.kind<=3))&&(idx e.index&&true))
def zC {d:Nat} (m:Mod d):Bool :=
 m.types.all G9&&(m.imports.all D7&&(m.funcs.all Bq&&((m.tables++m.aF).all cu&&(m.globals.all D8&&(m.exports.all D9&&(m.start.all idx&&(m.elems.all (λe=>ui e.offset&&e.funcs.all idx)&&m.aA.all λx=>ui x.offset)))))))
def ny {d:Nat} (m:Mod d):Int :=
 if qW m=true then
  match pU og d m.funcs 0 with
  | none=>3
  | some _ =>
   match pU Br d m.funcs () with
   | none=>3
   | some _ =>
    match pU Cr d m.funcs () with
    | none=>4
    | some _ =>
     if zC m=true then
      match pU sZ d m.funcs () with
      | none=>30
      | some _=>0
     else 30
 else 3
structure Fe (w:AG) (v0 v1 v2 v3 v4 v5 v6 v7 v8 v9:Value) (u:AG):Prop where
 box:jC w v0 v1 v2 v3 v4 v5 v6 v7 v8 v9 u
 err:u.cell? ⟨w.heap.size+1,0,none⟩=some (.int .i64 0)
 fz:u.frozen? ⟨w.heap.size+1,0,none⟩=false
theorem Fe.on {w:AG} {v0 v1 v2 v3 v4 v5 v6 v7 v8 v9:Value} {u u':AG} (hb:AS u u') (h:Fe w v0 v1 v2 v3 v4 v5 v6 v7 v8 v9 u):Fe w v0 v1 v2 v3 v4 v5 v6 v7 v8 v9 u' :=
 ⟨h.box.on hb,ak hb h.err,(hb.frozen (p:=⟨w.heap.size+1,0,none⟩) (World.block_lt_of_cell? _ _ h.err)).trans h.fz⟩
theorem Fe.start (w:AG) (t t2:TypeId) (v0 v1 v2 v3 v4 v5 v6 v7 v8 v9:Value):Fe w v0 v1 v2 v3 v4 v5 v6 v7 v8 v9 ((w.alloc (.cells #[v0,v1,v2,v3,v4,v5,v6,v7,v8,v9] t)).alloc (.cells #[.int .i64 0] t2)) :=
 ⟨(jC.start w t v0 v1 v2 v3 v4 v5 v6 v7 v8 v9).new _,by rw [World.cell?_alloc_at _ _ _ _ (by simp)];rfl,by rw [World.frozen?_alloc_at _ _ _ _ (by simp)]⟩
end au
end Go.Proofs.YtcfifbgemfladaaGreatDoor
