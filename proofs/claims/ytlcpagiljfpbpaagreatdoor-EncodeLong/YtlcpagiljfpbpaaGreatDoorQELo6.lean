/- Texts that the claim needs. -/
import Derived.Test.YtlcpagiljfpbpaaGreatDoorQELo5
import Derived.Laws.AppendOwn
import Derived.Laws.AppendOwnNone
import Derived.OwnWalk
import Derived.Test.YtlcpagiljfpbpaaGreatDoorQELo0
import Derived.Lib.AppendStr
import Derived.Orders
namespace Go.Proofs.YtlcpagiljfpbpaaGreatDoor
open Go.RowKit Rep
set_option linter.unusedVariables false
section App
variable {P:Program}
theorem run_app (w:World) (base:Nat) (t ty e:TypeId) (i:TypeInfo) (z:Value) (size bytes:Nat) (ht:P.underlying t=some (.slice e)) (hi:P.info? e=some i) (hz:i.zero=some z)
  (hsize:i.size=size) (hby:i.bytes=bytes) (hzs:z.cells.size=size) (hsz:0<size)
  (v:Value) (n:Nat) (xs:List Value) (hown:w.ownsRow base e size v n xs)
  (a:Addr) (m c:Nat) (news:List Value) (hl:news.length=m*size) (hnews:∀j u,news[j]?=some u->w.cell? (a.add j)=some u) (h1:∀u ∈ news,u.oneCell'=true)
  (h63:n+m<=maxLen) (hbytes:(n+m)*bytes<=140737488355328) (hbase:base<=w.heap.size) :
  ∃v' w',(Builtin.append_ #[t,t] ty #[v,.slice (some a) m c]).run P w=.ok v' w'/\w'.ownsRow base e size v' (n+m) (xs++news)/\w.grownBy w' v.ownBlock /\
   (v'.ownBlock=v.ownBlock\/v'.ownBlock=some w.heap.size):=by
 obtain ⟨v',w',hr,h2,h3,h4⟩:=run_append_own (P:=P) w base t ty e i z size bytes ht hi hz hsize hby hzs hsz v n xs hown a m c news hl hnews h1 h63 hbytes hbase
 refine ⟨v',w',hr,h2,h3,?_⟩
 subst hsize
 subst hby
 unfold maxLen at h63
 rcases hown.2 with ⟨rfl,rfl⟩|⟨g,cap,cur,rfl,hbg,hg,hnc,hcm,hcs,htake⟩
 ·by_cases hm:m=0
  ·left;rw [h4.2 ⟨rfl,hm⟩]
  ·rw [run_append_nil (P:=P) w t ty e i z ht hi hz a m c news hl hnews (by omega) (by omega) (by simp only [Nat.zero_add] at hbytes;omega)] at hr
   injection hr with hv _
   right;rw [<- hv];rfl
 ·by_cases hroom:n+m<=cap
  ·have hfit:n*i.size+news.length<=cur.size:=by rw [hl,hcs,<- Nat.add_mul];exact Nat.mul_le_mul_right _ hroom
   rw [run_append_room (P:=P) w t ty e i ht hi g n cap cur hg a m c news hl hnews h1 hroom hfit] at hr
   injection hr with hv _
   left;rw [<- hv];rfl
  ·have holds:∀j u,xs[j]?=some u->w.cell? ((⟨g,0,none⟩:Addr).add j)=some u:=hown.cells (g:=g) rfl
   rw [run_append_grow (P:=P) w t ty e i z ht hi hz ⟨g,0,none⟩ n cap xs hown.1 holds a m c news hl hnews (by omega) (by omega) (growslice_fits (by omega) hbytes)] at hr
   injection hr with hv _
   right;rw [<- hv];rfl
theorem run_app_none (w:World) (base:Nat) (t ty e:TypeId) (i:TypeInfo) (size:Nat) (ht:P.underlying t=some (.slice e)) (hi:P.info? e=some i) (v:Value) (n:Nat) (xs:List Value) (hown:w.ownsRow base e size v n xs) (c:Nat) :
  (Builtin.append_ #[t,t] ty #[v,.slice none 0 c]).run P w=.ok v w:=by
 rcases hown.2 with ⟨rfl,rfl⟩|⟨g,cap,cur,rfl,_,_,hnc,_⟩
 ·simp [Builtin.append_,run_underlying ht,sizeOf,typeInfo,hi,Builtin.lenOf,Builtin.firstCells]
 ·simp [Builtin.append_,run_underlying ht,sizeOf,typeInfo,hi,Builtin.lenOf,Builtin.firstCells,hnc,storeCells]
theorem run_appS (w:World) (base:Nat) (t ty e:TypeId) (i:TypeInfo) (z:Value) (size bytes:Nat) (ht:P.underlying t=some (.slice e)) (hi:P.info? e=some i) (hz:i.zero=some z)
  (hsize:i.size=size) (hby:i.bytes=bytes) (hzs:z.cells.size=size) (hsz:0<size)
  (v:Value) (n:Nat) (xs:List Value) (hown:w.ownsRow base e size v n xs)
  (xo:Option Addr) (m c:Nat) (news:List Value) (hxo:xo=none->m=0) (hl:news.length=m*size) (hnews:∀ad,xo=some ad->∀j u,news[j]?=some u->w.cell? (ad.add j)=some u) (h1:∀u ∈ news,u.oneCell'=true)
  (h63:n+m<=maxLen) (hbytes:(n+m)*bytes<=140737488355328) (hbase:base<=w.heap.size) :
  ∃v' w',(Builtin.append_ #[t,t] ty #[v,.slice xo m c]).run P w=.ok v' w'/\w'.ownsRow base e size v' (n+m) (xs++news)/\w.grownBy w' v.ownBlock /\
   (v'.ownBlock=v.ownBlock\/v'.ownBlock=some w.heap.size):=by
 cases xo with
 | none =>
  obtain rfl:=hxo rfl
  obtain rfl:news = []:=List.eq_nil_of_length_eq_zero (by simpa using hl)
  refine ⟨v,w,run_app_none w base t ty e i size ht hi v n xs hown c,by simpa using hown,⟨rfl,rfl,rfl,Nat.le_refl _,fun _ _ _=>rfl⟩,.inl rfl⟩
 | some a=>exact run_app w base t ty e i z size bytes ht hi hz hsize hby hzs hsz v n xs hown a m c news hl (hnews a rfl) h1 h63 hbytes hbase
theorem wpList_appS {w:World} {ops:Array Oper} {rest:List Oper} {o:Oper} {a:Act} {Q:Exit->Act->World->Prop} (hgd:o.guard=none) (s x:Operand) (t:TypeId)
  (ho:o.op=.call { callee:=.builtin .append,args:=#[s,x],argTypes:=#[t,t] })
  (base:Nat) (e:TypeId) (i:TypeInfo) (z:Value) (size bytes:Nat) (ht:P.underlying t=some (.slice e)) (hi:P.info? e=some i) (hz:i.zero=some z)
  (hsize:i.size=size) (hby:i.bytes=bytes) (hzs:z.cells.size=size) (hsz:0<size)
  (v:Value) (n:Nat) (xs:List Value) (hs:a.eval s=v) (hown:w.ownsRow base e size v n xs)
  (xo:Option Addr) (m c:Nat) (news:List Value) (hx:a.eval x=.slice xo m c) (hxo:xo=none->m=0) (hl:news.length=m*size) (hnews:∀ad,xo=some ad->∀j u,news[j]?=some u->w.cell? (ad.add j)=some u) (h1:∀u ∈ news,u.oneCell'=true)
  (h63:n+m<=maxLen) (hbytes:(n+m)*bytes<=140737488355328) (hbase:base<=w.heap.size)
  (h:∀v' w',w'.ownsRow base e size v' (n+m) (xs++news)->w.grownBy w' v.ownBlock->(v'.ownBlock=v.ownBlock\/v'.ownBlock=some w.heap.size)->wpList P ops Q rest (a.put o.dst v') w'):wpList P ops Q (o :: rest) a w:=by
 refine wpList_plain hgd fun K hK=>?_
 obtain ⟨v',w',hr,h2,h3,h4⟩:=run_appS w base t o.type e i z size bytes ht hi hz hsize hby hzs hsz v n xs hown xo m c news hxo hl hnews h1 h63 hbytes hbase
 unfold Oper.wp
 simp [execOp,ho,resolve,invoke,builtin,hs,hx,hr,Result.andThen]
 exact hK _ _ (h v' w' h2 h3 h4)
end App
namespace Rep
def IntsS (w:World) (S:Nat->Prop) (v:Value) (l:List Int):Prop:=Row 1 (fun b o (z:Int)=>S b/\w.cell? ⟨b,o,none⟩=.some (.int .i64 z)) v l
structure InsS {α:Type} (w:World) (S:Nat->Prop) (sub:Value->α->Prop) (bk o:Nat) (x:Ins α):Prop where
 op:w.cell? ⟨bk,o,none⟩=.some (.int .i64 x.op)
 a:w.cell? ⟨bk,o+1,none⟩=.some (.int .i64 x.a)
 b:w.cell? ⟨bk,o+2,none⟩=.some (.int .i64 x.b)
 n:w.cell? ⟨bk,o+3,none⟩=.some (.int .i64 x.n)
 labels:∃v,w.cell? ⟨bk,o+4,none⟩=.some v/\IntsS w S v x.labels
 body:∃v,w.cell? ⟨bk,o+5,none⟩=.some v/\sub v x.body
 els:∃v,w.cell? ⟨bk,o+6,none⟩=.some v/\sub v x.els
def AtS (w:World) (S:Nat->Prop):(d:Nat)->Value->IL d->Prop
 | 0,v,_=>∃o cap,v=.slice o 0 cap
 | d+1,v,l=>Row 7 (fun b o (x:Ins (IL d))=>S b/\InsS w S (AtS w S d) b o x) v l
theorem IntsS.at {w:World} {S:Nat->Prop} {v:Value} {l:List Int} (h:IntsS w S v l):Ints w v l:=Row.imp h fun _ _ _ _ h=>h.2
theorem AtS.at {w:World} {S:Nat->Prop}:∀(d:Nat) (v:Value) (l:IL d),AtS w S d v l->At w d v l
 | 0,_,_,h=>h
 | d+1,_,_,h=>Row.imp (α:=Ins (IL d)) h fun _ _ _ _ ⟨_,h⟩=>⟨h.op,h.a,h.b,h.n,let ⟨v,a,b⟩:=h.labels;⟨v,a,b.at⟩,let ⟨v,a,b⟩:=h.body;⟨v,a,AtS.at d v _ b⟩,let ⟨v,a,b⟩:=h.els;⟨v,a,AtS.at d v _ b⟩⟩
theorem cell_keep {w w':World} {S S':Nat->Prop} (hk:∀k,S k->S' k/\w'.heap[k]?=w.heap[k]?) {b o:Nat} {u:Value} (hb:S b) (h:w.cell? ⟨b,o,none⟩=.some u):w'.cell? ⟨b,o,none⟩=.some u :=
 (World.cell?_of_block (a:=⟨b,o,none⟩) (hk b hb).2).trans h
theorem IntsS.keep {w w':World} {S S':Nat->Prop} (hk:∀k,S k->S' k/\w'.heap[k]?=w.heap[k]?) {v:Value} {l:List Int} (h:IntsS w S v l):IntsS w' S' v l :=
 Row.imp h fun b _ _ _ h=>⟨(hk b h.1).1,cell_keep hk h.1 h.2⟩
theorem AtS.keep {w w':World} {S S':Nat->Prop} (hk:∀k,S k->S' k/\w'.heap[k]?=w.heap[k]?):∀(d:Nat) (v:Value) (l:IL d),AtS w S d v l->AtS w' S' d v l
 | 0,_,_,h=>h
 | d+1,_,_,h=>Row.imp (α:=Ins (IL d)) h fun b _ _ _ ⟨hb,h⟩=>⟨(hk b hb).1,cell_keep hk hb h.op,cell_keep hk hb h.a,cell_keep hk hb h.b,cell_keep hk hb h.n,let ⟨v,a,c⟩:=h.labels;⟨v,cell_keep hk hb a,c.keep hk⟩,let ⟨v,a,c⟩:=h.body;⟨v,cell_keep hk hb a,AtS.keep hk d v _ c⟩,let ⟨v,a,c⟩:=h.els;⟨v,cell_keep hk hb a,AtS.keep hk d v _ c⟩⟩
end Rep
end Go.Proofs.YtlcpagiljfpbpaaGreatDoor

namespace Go.Proofs.YtlcpagiljfpbpaaGreatDoor
open Go.RowKit Rep
set_option linter.unusedVariables false
namespace Enc
theorem u8Info:(Tryz.prog.info? 5).map (fun i=>(i.zero,i.size,i.bytes))=some (some (.int .u8 0),1,1):=by kernel_rfl
def cells (bs:List Int):List Value:=bs.map (Value.int .u8)
structure WS (w0:World) (p:Nat) (c:Nat->Value) (v:Value) (bs:List Int) (w:World):Prop where
 below:Below w0.heap.size w0 w
 base:w0.heap.size<=p
 blk:w.heap[p]?=some (.cells #[c 0,c 1,c 2,c 3,c 4,c 5,c 6,c 7,c 8,c 9,v] 67 (0,0))
 own:w.ownsRow w0.heap.size 5 1 v bs.length (cells bs)
 apart:v.ownBlock≠some p
section
variable {w0 w w':World} {p:Nat} {c:Nat->Value} {v:Value} {bs:List Int}
theorem WS.cell (h:WS w0 p c v bs w):w.cell? ⟨p,10,none⟩=some v:=by unfold World.cell?;rw [h.blk];rfl
theorem WS.frz (h:WS w0 p c v bs w):w.frozen? ⟨p,10,none⟩=false:=by unfold World.frozen?;rw [h.blk];simp
theorem WS.lt (h:WS w0 p c v bs w):p<w.heap.size:=(Array.getElem?_eq_some_iff.1 h.blk).1
theorem WS.slice (h:WS w0 p c v bs w):∃o k,v=.slice o bs.length k:=by
 rcases h.own.2 with ⟨rfl,h0⟩|⟨g,cap,cur,rfl,_⟩
 ·rw [h0];exact ⟨none,0,rfl⟩
 ·exact ⟨_,_,rfl⟩
theorem own_on' {B:Nat} {e:TypeId} {size:Nat} {v:Value} {n:Nat} {xs:List Value} (h:w.ownsRow B e size v n xs) (hb:Below w.heap.size w w'):w'.ownsRow B e size v n xs :=
 ⟨h.1,h.2.imp id fun ⟨g,cap,cur,h1,h2,h3,h4⟩=>⟨g,cap,cur,h1,h2,by rw [hb.block g (Array.getElem?_eq_some_iff.1 h3).1];exact h3,h4⟩⟩
theorem WS.on (h:WS w0 p c v bs w) (hb:Below w.heap.size w w'):WS w0 p c v bs w' :=
 ⟨h.below.trans (hb.mono h.below.size),h.base,by rw [hb.block p h.lt];exact h.blk,own_on' h.own hb,h.apart⟩
theorem WS.store {w9:World} {v':Value} {bs':List Int} (h:WS w0 p c v bs w) (ho:w9.ownsRow w0.heap.size 5 1 v' bs'.length (cells bs')) (hg:w.grownBy w9 v.ownBlock):WS w0 p c v' bs' (w9.setCell ⟨p,10,none⟩ v'):=by
 have hp9:w9.heap[p]?=some (.cells #[c 0,c 1,c 2,c 3,c 4,c 5,c 6,c 7,c 8,c 9,v] 67 (0,0)):=by rw [hg.block p h.lt (fun e=>h.apart e.symm)];exact h.blk
 have hap:v'.ownBlock≠some p:=by
  rcases ho.2 with ⟨rfl,_⟩|⟨g,cap,cur,rfl,_,hgg,_⟩
  ·simp [Value.ownBlock]
  ·intro e
   have:g=p:=by simpa [Value.ownBlock] using e
   subst this
   rw [hgg] at hp9
   injection hp9 with hp9
   injection hp9 with _ hp9
   exact absurd hp9 (by decide)
 refine ⟨(h.below.grown hg h.below.size fun k hk=>(h.own.lt k hk).1).setCell h.base _,h.base,heap_setCell_same w9 p 10 _ _ v' hp9,?_,hap⟩
 refine ⟨ho.1,ho.2.imp id fun ⟨g,cap,cur,k1,k2,k3,k4⟩=>⟨g,cap,cur,k1,k2,?_,k4⟩⟩
 rw [Below.heap_setCell _ _ _ _ (by show g≠p;intro e;subst e;exact hap (by rw [k1];rfl))]
 exact k3
end
def Adds (bs add bs':List Int):Prop:=bs'=bs++add\/(262144<bs'.length/\262144<bs.length+add.length/\bs.length<=bs'.length)
theorem Adds.le {bs add bs':List Int} (h:Adds bs add bs'):bs.length<=bs'.length:=by
 rcases h with rfl|⟨_,_,h⟩
 ·rw [List.length_append];omega
 ·exact h
theorem Adds.refl (bs:List Int):Adds bs [] bs:=.inl (by simp)
theorem Adds.trans {a b c x y:List Int} (h:Adds a x b) (h':Adds b y c):Adds a (x++y) c:=by
 rcases h with rfl|⟨h1,h2,h5⟩
 ·rcases h' with rfl|⟨h3,h4,h6⟩
  ·exact .inl (by rw [List.append_assoc])
  ·exact .inr ⟨h3,by rw [List.length_append] at h4 ⊢;omega,by rw [List.length_append] at h6;omega⟩
 ·rcases h' with rfl|⟨h3,h4,h6⟩
  ·exact .inr ⟨by rw [List.length_append];omega,by rw [List.length_append];omega,by rw [List.length_append];omega⟩
  ·exact .inr ⟨h3,by rw [List.length_append];omega,by omega⟩
structure Kept (p:Nat) (v:Value) (w:World) (v':Value) (w':World):Prop where
 size:w.heap.size<=w'.heap.size
 block:∀k,k<w.heap.size->k≠p->some k≠v.ownBlock->w'.heap[k]?=w.heap[k]?
 own:∀k,v'.ownBlock=some k->v.ownBlock=some k\/w.heap.size<=k
theorem Kept.refl (p:Nat) (v:Value) (w:World):Kept p v w v w:=⟨Nat.le_refl _,fun _ _ _ _=>rfl,fun k h=>.inl h⟩
theorem Kept.trans {p:Nat} {v v1 v2:Value} {w w1 w2:World} (h:Kept p v w v1 w1) (h':Kept p v1 w1 v2 w2):Kept p v w v2 w2 :=
 ⟨Nat.le_trans h.size h'.size,fun k hk hp hv=>by
  rw [h'.block k (Nat.lt_of_lt_of_le hk h.size) hp (fun e=>?_),h.block k hk hp hv]
  rcases h.own k e.symm with h1|h1
  ·exact hv h1.symm
  ·omega,fun k hk=>by
  rcases h'.own k hk with h1|h1
  ·exact h.own k h1
  ·exact .inr (Nat.le_trans h.size h1)⟩
theorem Kept.below {p:Nat} {v:Value} {w w1:World} (hb:Below w.heap.size w w1):Kept p v w v w1:=⟨hb.size,fun k hk _ _=>hb.block k hk,fun k h=>.inl h⟩
theorem Kept.store {p i:Nat} {v v':Value} {w w9:World} (hg:w.grownBy w9 v.ownBlock) (hv:v'.ownBlock=v.ownBlock\/v'.ownBlock=some w.heap.size) (u:Value):Kept p v w v' (w9.setCell ⟨p,i,none⟩ u) :=
 ⟨by simpa using hg.size,fun k hk hp ho=>by rw [Below.heap_setCell _ _ _ _ (by show k≠p;exact hp),hg.block k hk ho],fun k hk=>by
  rcases hv with h|h
  ·exact .inl (h ▸ hk)
  ·rw [h] at hk;injection hk with hk;exact .inr (by omega)⟩
def Does (w0:World) (p:Nat) (c:Nat->Value) (v:Value) (w:World) (bs:List Int) (e:Ending) (w':World):Prop:=∃v',e=.returned (.tuple #[])/\WS w0 p c v' bs w'/\Kept p v w v' w'
end Enc
open Enc
theorem wrap_u8 (b:Int):IntKind.u8.wrap b=b%256:=by simp [IntKind.wrap,IntKind.signed,IntKind.bits]
set_option maxRecDepth 100000 in
set_option maxHeartbeats 1000000 in
theorem wPut (w0:World) (p:Nat) (c:Nat->Value) (v:Value) (bs:List Int) (b:Int) (w:World) (h:WS w0 p c v bs w) (hn:bs.length<=100000000000000) :
  Calls Tryz.prog 52 #[.pointer (some ⟨p,0,none⟩),.int .i64 b] w (Does w0 p c v w (bs++[b%256])):=by
 obtain ⟨o,k,rfl⟩:=h.slice
 have HS:=hideR h
 have kc:=h.cell
 clear h
 obtain ⟨i0,hi,hz0,hz1,hz2⟩:=info_parts u8Info
 have HSA:=hideR (HS.out.on (new_on' w (.cells #[.int .u8 (b%256)] 5)))
 have hw:=wrap_u8 b
 go_enter Tryz.func52,Tryz.ntmps52
 go_wp2_with (first|(at_builtin;refine wpList_appS rfl _ _ 53 rfl w0.heap.size 5 i0 _ 1 1 Tryz.underlying53 hi hz0 hz1 hz2 rfl (by decide) _ _ _ rfl HSA.out.own (some ⟨w.heap.size,0,none⟩) 1 1 [.int .u8 (b%256)] rfl ?c6 ?c0 ?c1 ?c2 ?c3 ?c4 ?c5 ?_))
 case c6=>intro h;cases h
 case c0=>rfl
 case c1=>exact fun ad h=>by injection h with h;subst h;exact one_new _ _ _
 case c2=>intro u hu;rw [List.mem_singleton.1 hu];rfl
 case c3=>unfold maxLen;omega
 case c4=>omega
 case c5=>exact HSA.out.below.size
 intro v' w9 hown hg hv
 have HKP:=hideR ((Kept.below (p:=p) (v:=.slice o bs.length k) (new_on' w (.cells #[.int .u8 (b%256)] 5))).trans (Kept.store (i:=10) hg (by simpa using hv) v'))
 have HE:=hideR (HSA.out.store (bs':=bs++[b%256]) (by rw [List.length_append];simpa [cells] using hown) hg)
 obtain ⟨o9,k9,rfl⟩:∃o9 k9,v'=.slice o9 (bs.length+1) k9:=by
  rcases hown.2 with ⟨rfl,h0⟩|⟨g,cap,cur,rfl,_⟩
  ·omega
  ·exact ⟨_,_,rfl⟩
 have hS9:WS w0 p c (.slice o bs.length k) bs (w.alloc (.cells #[.int .u8 (b%256)] 5)):=HSA.out
 have kc9:w9.cell? ⟨p,10,none⟩=some (.slice o bs.length k):=by rw [World.cell?_of_block (a:=⟨p,10,none⟩) (hg.block p hS9.lt (fun e=>hS9.apart e.symm))];exact hS9.cell
 have kf9:w9.frozen? ⟨p,10,none⟩=false:=by rw [World.frozen?_of_block (a:=⟨p,10,none⟩) (hg.block p hS9.lt (fun e=>hS9.apart e.symm))];exact hS9.frz
 clear hown hg hv hS9 HSA HS kc
 go_wp2
 go_end0
 exact ⟨_,rfl,HE.out,HKP.out⟩
end Go.Proofs.YtlcpagiljfpbpaaGreatDoor

namespace Go.Proofs.YtlcpagiljfpbpaaGreatDoor
open Go.RowKit Rep
set_option linter.unusedVariables false
theorem count_set {l:Array Bool} {i:Nat} (h:l.getD i true=false):(l.setIfInBounds i true).toList.count false+1=l.toList.count false:=by
 have hi:i<l.size:=by
  rcases Nat.lt_or_ge i l.size with h'|h'
  ·exact h'
  ·simp [Array.getD,Nat.not_lt.2 h'] at h
 have he:l[i]=false:=by simpa [Array.getD,hi] using h
 have hl:l.toList=l.toList.take i++false :: l.toList.drop (i+1):=by
  rw [<- he]
  have:i<l.toList.length:=by simpa using hi
  conv=>lhs;rw [<- List.take_append_drop i l.toList,List.drop_eq_getElem_cons this]
  simp
 have hs:(l.setIfInBounds i true).toList=l.toList.take i++true :: l.toList.drop (i+1):=by
  rw [Array.toList_setIfInBounds,List.set_eq_take_append_cons_drop,if_pos (by simpa using hi)]
 have e1:=congrArg (List.count false) hl
 have e2:=congrArg (List.count false) hs
 rw [List.count_append,List.count_cons_self] at e1
 rw [List.count_append,List.count_cons_of_ne (by simp)] at e2
 omega
theorem wpAny_inv {P:Program} {md:Region.Mode} {ops:Array Oper} {Q:Exit->Act->World->Prop} (Inv:Array Bool->Act->World->Prop)
  (hstep:∀listed i a w,i ∈ Region.ready md ops listed->Inv listed a w->wpOp P ops Q i (Inv (listed.setIfInBounds i true)) a w)
  (hdone:∀listed a w,Region.ready md ops listed = []->Inv listed a w->Q .normal a w) :
  ∀(fuel:Nat) (listed:Array Bool) (a:Act) (w:World),listed.toList.count false<=fuel->Inv listed a w->wpAny P md ops Q fuel listed a w:=by
 intro fuel
 induction fuel with
 | zero =>
  intro listed a w hc hI
  have hr:Region.ready md ops listed = []:=by
   cases hrr:Region.ready md ops listed with
   | nil=>rfl
   | cons i r =>
    have hm:i ∈ Region.ready md ops listed:=by rw [hrr];simp
    have:=count_set (mem_ready.1 hm).1
    omega
  exact ⟨hr,hdone _ _ _ hr hI⟩
 | succ fuel ih =>
  intro listed a w hc hI
  refine ⟨fun hr=>hdone _ _ _ hr hI,fun i hi=>?_⟩
  refine wpOp_mono (fun a' w' h=>ih _ a' w' ?_ h) (hstep listed i a w hi hI)
  have:=count_set (mem_ready.1 hi).1
  omega
theorem wp_region_inv {P:Program} {ops:Array Oper} {Q:Exit->Act->World->Prop} {id:Nat} {a:Act} {w:World} (Inv:Array Bool->Act->World->Prop) (hm:P.follows .mixedOrders=true)
  (hstep:∀listed i a w,i ∈ Region.ready .any ops listed->Inv listed a w->wpOp P ops Q i (Inv (listed.setIfInBounds i true)) a w)
  (hdone:∀listed a w,Region.ready .any ops listed = []->Inv listed a w->Q .normal a w)
  (h0:Inv (Array.replicate ops.size false) a { w with drawn:=w.drawn+1 }):(Code.region id ops true).wp P Q a w :=
 wp_region_any hm (wpAny_inv Inv hstep hdone _ _ _ _ (by simp) h0)
end Go.Proofs.YtlcpagiljfpbpaaGreatDoor

