/- Texts that the claim needs. -/
import Derived.Test.YtgbbmdknbflilaaDoorQDcu2
import Derived.Laws.AppendOwn
import Derived.Laws.AppendOwnNone
import Derived.OwnWalk
import Derived.ProofKit
import Derived.OpenShut
import Derived.Lib.SmallJoins
import Derived.WalkKit
import Derived.Laws.BitsAllLaws
namespace Go.Proofs.YtgbbmdknbflilaaDoor
open Go.RowKit Rep
set_option linter.unusedVariables false
theorem below_go' {w u v:World} (h:Below w.heap.size w u) (k:Below u.heap.size u v):Below w.heap.size w v:=h.trans (k.mono h.size)
theorem new_on' (w:World) (o:Obj):Below w.heap.size w (w.alloc o):=(Below.refl _ w).alloc (Nat.le_refl _) o
theorem drew_on (w:World):Below w.heap.size w w.drew:=(Below.refl _ w).drew
section App
variable {P:Program}
theorem run_app (w:World) (base:Nat) (t ty e:TypeId) (i:TypeInfo) (z:Value) (size bytes:Nat) (ht:P.underlying t=some (.slice e)) (hi:P.info? e=some i) (hz:i.zero=some z)
  (hsize:i.size=size) (hby:i.bytes=bytes) (hzs:z.cells.size=size) (hsz:0<size)
  (v:Value) (n:Nat) (xs:List Value) (hown:w.ownsRow base e size v n xs)
  (a:Addr) (m c:Nat) (news:List Value) (hl:news.length=m*size) (hnews:∀j u,news[j]?=some u->w.cell? (a.add j)=some u) (h1:∀u ∈ news,u.oneCell'=true)
  (h63:n+m<=maxLen) (hbytes:(n+m)*bytes<=140737488355328) (hbase:base<=w.heap.size) :
  ∃v' w',(Builtin.append_ #[t,t] ty #[v,.slice (some a) m c]).run P w=.ok v' w'/\w'.ownsRow base e size v' (n+m) (xs++news)/\w.grownBy w' v.ownBlock /\
   (v'.ownBlock=v.ownBlock\/v'.ownBlock=some w.heap.size):=by
 obtain ⟨v',w',hr,h2,h3,h4⟩:=run_append_own (P:=P) w base t ty e i z size bytes ht hi hz hsize hby hzs hsz v n xs hown a m c news hl hnews h1 h63 hbytes hbase
 refine ⟨v',w',hr,h2,h3,?_⟩
 subst hsize
 subst hby
 unfold maxLen at h63
 rcases hown.2 with ⟨rfl,rfl⟩|⟨g,cap,cur,rfl,hbg,hg,hnc,hcm,hcs,htake⟩
 ·by_cases hm:m=0
  ·left;rw [h4.2 ⟨rfl,hm⟩]
  ·rw [run_append_nil (P:=P) w t ty e i z ht hi hz a m c news hl hnews (by omega) (by omega) (by simp only [Nat.zero_add] at hbytes;omega)] at hr
   injection hr with hv _
   right;rw [<- hv];rfl
 ·by_cases hroom:n+m<=cap
  ·have hfit:n*i.size+news.length<=cur.size:=by rw [hl,hcs,<- Nat.add_mul];exact Nat.mul_le_mul_right _ hroom
   rw [run_append_room (P:=P) w t ty e i ht hi g n cap cur hg a m c news hl hnews h1 hroom hfit] at hr
   injection hr with hv _
   left;rw [<- hv];rfl
  ·have holds:∀j u,xs[j]?=some u->w.cell? ((⟨g,0,none⟩:Addr).add j)=some u:=hown.cells (g:=g) rfl
   rw [run_append_grow (P:=P) w t ty e i z ht hi hz ⟨g,0,none⟩ n cap xs hown.1 holds a m c news hl hnews (by omega) (by omega) (growslice_fits (by omega) hbytes)] at hr
   injection hr with hv _
   right;rw [<- hv];rfl
theorem run_app_none (w:World) (base:Nat) (t ty e:TypeId) (i:TypeInfo) (size:Nat) (ht:P.underlying t=some (.slice e)) (hi:P.info? e=some i) (v:Value) (n:Nat) (xs:List Value) (hown:w.ownsRow base e size v n xs) (c:Nat) :
  (Builtin.append_ #[t,t] ty #[v,.slice none 0 c]).run P w=.ok v w:=by
 rcases hown.2 with ⟨rfl,rfl⟩|⟨g,cap,cur,rfl,_,_,hnc,_⟩
 ·simp [Builtin.append_,run_underlying ht,sizeOf,typeInfo,hi,Builtin.lenOf,Builtin.firstCells]
 ·simp [Builtin.append_,run_underlying ht,sizeOf,typeInfo,hi,Builtin.lenOf,Builtin.firstCells,hnc,storeCells]
theorem run_appS (w:World) (base:Nat) (t ty e:TypeId) (i:TypeInfo) (z:Value) (size bytes:Nat) (ht:P.underlying t=some (.slice e)) (hi:P.info? e=some i) (hz:i.zero=some z)
  (hsize:i.size=size) (hby:i.bytes=bytes) (hzs:z.cells.size=size) (hsz:0<size)
  (v:Value) (n:Nat) (xs:List Value) (hown:w.ownsRow base e size v n xs)
  (xo:Option Addr) (m c:Nat) (news:List Value) (hxo:xo=none->m=0) (hl:news.length=m*size) (hnews:∀ad,xo=some ad->∀j u,news[j]?=some u->w.cell? (ad.add j)=some u) (h1:∀u ∈ news,u.oneCell'=true)
  (h63:n+m<=maxLen) (hbytes:(n+m)*bytes<=140737488355328) (hbase:base<=w.heap.size) :
  ∃v' w',(Builtin.append_ #[t,t] ty #[v,.slice xo m c]).run P w=.ok v' w'/\w'.ownsRow base e size v' (n+m) (xs++news)/\w.grownBy w' v.ownBlock /\
   (v'.ownBlock=v.ownBlock\/v'.ownBlock=some w.heap.size):=by
 cases xo with
 | none =>
  obtain rfl:=hxo rfl
  obtain rfl:news = []:=List.eq_nil_of_length_eq_zero (by simpa using hl)
  refine ⟨v,w,run_app_none w base t ty e i size ht hi v n xs hown c,by simpa using hown,⟨rfl,rfl,rfl,Nat.le_refl _,fun _ _ _=>rfl⟩,.inl rfl⟩
 | some a=>exact run_app w base t ty e i z size bytes ht hi hz hsize hby hzs hsz v n xs hown a m c news hl (hnews a rfl) h1 h63 hbytes hbase
theorem wpList_appS {w:World} {ops:Array Oper} {rest:List Oper} {o:Oper} {a:Act} {Q:Exit->Act->World->Prop} (hgd:o.guard=none) (s x:Operand) (t:TypeId)
  (ho:o.op=.call { callee:=.builtin .append,args:=#[s,x],argTypes:=#[t,t] })
  (base:Nat) (e:TypeId) (i:TypeInfo) (z:Value) (size bytes:Nat) (ht:P.underlying t=some (.slice e)) (hi:P.info? e=some i) (hz:i.zero=some z)
  (hsize:i.size=size) (hby:i.bytes=bytes) (hzs:z.cells.size=size) (hsz:0<size)
  (v:Value) (n:Nat) (xs:List Value) (hs:a.eval s=v) (hown:w.ownsRow base e size v n xs)
  (xo:Option Addr) (m c:Nat) (news:List Value) (hx:a.eval x=.slice xo m c) (hxo:xo=none->m=0) (hl:news.length=m*size) (hnews:∀ad,xo=some ad->∀j u,news[j]?=some u->w.cell? (ad.add j)=some u) (h1:∀u ∈ news,u.oneCell'=true)
  (h63:n+m<=maxLen) (hbytes:(n+m)*bytes<=140737488355328) (hbase:base<=w.heap.size)
  (h:∀v' w',w'.ownsRow base e size v' (n+m) (xs++news)->w.grownBy w' v.ownBlock->(v'.ownBlock=v.ownBlock\/v'.ownBlock=some w.heap.size)->wpList P ops Q rest (a.put o.dst v') w'):wpList P ops Q (o :: rest) a w:=by
 refine wpList_plain hgd fun K hK=>?_
 obtain ⟨v',w',hr,h2,h3,h4⟩:=run_appS w base t o.type e i z size bytes ht hi hz hsize hby hzs hsz v n xs hown xo m c news hxo hl hnews h1 h63 hbytes hbase
 unfold Oper.wp
 simp [execOp,ho,resolve,invoke,builtin,hs,hx,hr,Result.andThen]
 exact hK _ _ (h v' w' h2 h3 h4)
end App
namespace Rep
def IntsS (w:World) (S:Nat->Prop) (v:Value) (l:List Int):Prop:=Row 1 (fun b o (z:Int)=>S b/\w.cell? ⟨b,o,none⟩=.some (.int .i64 z)) v l
structure InsS {α:Type} (w:World) (S:Nat->Prop) (sub:Value->α->Prop) (bk o:Nat) (x:Ins α):Prop where
 op:w.cell? ⟨bk,o,none⟩=.some (.int .i64 x.op)
 a:w.cell? ⟨bk,o+1,none⟩=.some (.int .i64 x.a)
 b:w.cell? ⟨bk,o+2,none⟩=.some (.int .i64 x.b)
 n:w.cell? ⟨bk,o+3,none⟩=.some (.int .i64 x.n)
 labels:∃v,w.cell? ⟨bk,o+4,none⟩=.some v/\IntsS w S v x.labels
 body:∃v,w.cell? ⟨bk,o+5,none⟩=.some v/\sub v x.body
 els:∃v,w.cell? ⟨bk,o+6,none⟩=.some v/\sub v x.els
def AtS (w:World) (S:Nat->Prop):(d:Nat)->Value->IL d->Prop
 | 0,v,_=>∃o cap,v=.slice o 0 cap
 | d+1,v,l=>Row 7 (fun b o (x:Ins (IL d))=>S b/\InsS w S (AtS w S d) b o x) v l
theorem IntsS.at {w:World} {S:Nat->Prop} {v:Value} {l:List Int} (h:IntsS w S v l):Ints w v l:=Row.imp h fun _ _ _ _ h=>h.2
theorem AtS.at {w:World} {S:Nat->Prop}:∀(d:Nat) (v:Value) (l:IL d),AtS w S d v l->At w d v l
 | 0,_,_,h=>h
 | d+1,_,_,h=>Row.imp (α:=Ins (IL d)) h fun _ _ _ _ ⟨_,h⟩=>⟨h.op,h.a,h.b,h.n,let ⟨v,a,b⟩:=h.labels;⟨v,a,b.at⟩,let ⟨v,a,b⟩:=h.body;⟨v,a,AtS.at d v _ b⟩,let ⟨v,a,b⟩:=h.els;⟨v,a,AtS.at d v _ b⟩⟩
theorem cell_keep {w w':World} {S S':Nat->Prop} (hk:∀k,S k->S' k/\w'.heap[k]?=w.heap[k]?) {b o:Nat} {u:Value} (hb:S b) (h:w.cell? ⟨b,o,none⟩=.some u):w'.cell? ⟨b,o,none⟩=.some u :=
 (World.cell?_of_block (a:=⟨b,o,none⟩) (hk b hb).2).trans h
theorem IntsS.keep {w w':World} {S S':Nat->Prop} (hk:∀k,S k->S' k/\w'.heap[k]?=w.heap[k]?) {v:Value} {l:List Int} (h:IntsS w S v l):IntsS w' S' v l :=
 Row.imp h fun b _ _ _ h=>⟨(hk b h.1).1,cell_keep hk h.1 h.2⟩
theorem AtS.keep {w w':World} {S S':Nat->Prop} (hk:∀k,S k->S' k/\w'.heap[k]?=w.heap[k]?):∀(d:Nat) (v:Value) (l:IL d),AtS w S d v l->AtS w' S' d v l
 | 0,_,_,h=>h
 | d+1,_,_,h=>Row.imp (α:=Ins (IL d)) h fun b _ _ _ ⟨hb,h⟩=>⟨(hk b hb).1,cell_keep hk hb h.op,cell_keep hk hb h.a,cell_keep hk hb h.b,cell_keep hk hb h.n,let ⟨v,a,c⟩:=h.labels;⟨v,cell_keep hk hb a,c.keep hk⟩,let ⟨v,a,c⟩:=h.body;⟨v,cell_keep hk hb a,AtS.keep hk d v _ c⟩,let ⟨v,a,c⟩:=h.els;⟨v,cell_keep hk hb a,AtS.keep hk d v _ c⟩⟩
def Since (B:Nat) (w:World) (row:Option Nat) (k:Nat):Prop:=B<=k/\k<w.heap.size/\some k≠row
theorem since_below {B:Nat} {w w':World} {row:Option Nat} (hb:Below w.heap.size w w'):∀k,Since B w row k->Since B w' row k/\w'.heap[k]?=w.heap[k]?:=fun k hk =>
 ⟨⟨hk.1,Nat.lt_of_lt_of_le hk.2.1 hb.size,hk.2.2⟩,hb.block k hk.2.1⟩
theorem since_grown {B:Nat} {w w':World} {v v':Value} (hg:w.grownBy w' v.ownBlock) (hv:v'.ownBlock=v.ownBlock\/v'.ownBlock=some w.heap.size):∀k,Since B w v.ownBlock k->Since B w' v'.ownBlock k/\w'.heap[k]?=w.heap[k]?:=fun k hk=>by
 refine ⟨⟨hk.1,Nat.lt_of_lt_of_le hk.2.1 hg.size,?_⟩,hg.block k hk.2.1 hk.2.2⟩
 rcases hv with h|h
 ·rw [h];exact hk.2.2
 ·rw [h]
  intro e
  injection e with e
  have:=hk.2.1
  omega
end Rep
end Go.Proofs.YtgbbmdknbflilaaDoor

namespace Go.Proofs.YtgbbmdknbflilaaDoor
open Go.RowKit Rep
set_option linter.unusedVariables false
namespace Rep
theorem add_addr (b o k:Nat):(⟨b,o,none⟩:Addr).add k=⟨b,o+k,none⟩:=by
 by_cases hk:k=0
 ·subst hk;rfl
 ·simp [Addr.add,hk]
variable {H:Type} {enc:TypeId × Value->H} {P:Program} {w:World} {base:Nat} {spare:Nat->Bool} {held:Bool}
end Rep
section Of
variable {H:Type} {enc:TypeId × Value->H} {w:World} {base:Nat} {spare:Nat->Bool} {held:Bool}
end Of
end Go.Proofs.YtgbbmdknbflilaaDoor

namespace Go.Proofs.YtgbbmdknbflilaaDoor
open Go.RowKit Rep
set_option linter.unusedVariables false
namespace Rep
def Blk (w:World) (p:Nat) (op a b n:Int) (v4 v5 v6:Value):Prop:=w.heap[p]?=some (.cells #[.int .i64 op,.int .i64 a,.int .i64 b,.int .i64 n,v4,v5,v6] 75 (0,0))
theorem Blk.new (w:World) (p:Nat) (op a b n:Int) (v4 v5 v6:Value) (hp:p=w.heap.size):Blk (w.alloc (.cells #[.int .i64 op,.int .i64 a,.int .i64 b,.int .i64 n,v4,v5,v6] 75)) p op a b n v4 v5 v6:=by
 subst hp;exact heap_alloc_new w _
theorem Blk.cell {w:World} {p:Nat} {op a b n:Int} {v4 v5 v6:Value} (h:Blk w p op a b n v4 v5 v6) (i:Nat) (v:Value) (hv:#[Value.int .i64 op,.int .i64 a,.int .i64 b,.int .i64 n,v4,v5,v6][i]?=some v):w.cell? ⟨p,i,none⟩=some v:=by
 unfold World.cell?
 rw [h]
 exact hv
theorem Blk.frz {w:World} {p:Nat} {op a b n:Int} {v4 v5 v6:Value} (h:Blk w p op a b n v4 v5 v6) (i:Nat):w.frozen? ⟨p,i,none⟩=false:=by
 unfold World.frozen?
 rw [h]
 simp
theorem Blk.keep {w w':World} {p:Nat} {op a b n:Int} {v4 v5 v6:Value} (h:Blk w p op a b n v4 v5 v6) (hk:w'.heap[p]?=w.heap[p]?):Blk w' p op a b n v4 v5 v6:=by unfold Blk at *;rw [hk];exact h
theorem Blk.set4 {w:World} {p:Nat} {op a b n:Int} {v4 v5 v6:Value} (h:Blk w p op a b n v4 v5 v6) (v:Value):Blk (w.setCell ⟨p,4,none⟩ v) p op a b n v v5 v6:=heap_setCell_same w p 4 _ _ v h
theorem Blk.set5 {w:World} {p:Nat} {op a b n:Int} {v4 v5 v6:Value} (h:Blk w p op a b n v4 v5 v6) (v:Value):Blk (w.setCell ⟨p,5,none⟩ v) p op a b n v4 v v6:=heap_setCell_same w p 5 _ _ v h
theorem Blk.set6 {w:World} {p:Nat} {op a b n:Int} {v4 v5 v6:Value} (h:Blk w p op a b n v4 v5 v6) (v:Value):Blk (w.setCell ⟨p,6,none⟩ v) p op a b n v4 v5 v:=heap_setCell_same w p 6 _ _ v h
theorem Blk.lt {w:World} {p:Nat} {op a b n:Int} {v4 v5 v6:Value} (h:Blk w p op a b n v4 v5 v6):p<w.heap.size:=(Array.getElem?_eq_some_iff.1 h).1
def But (p:Nat) (w w':World):Prop:=w.grownBy w' (some p)
theorem But.below {p:Nat} {w w':World} (h:But p w w'):Below p w w'\/w.heap.size<p:=by
 by_cases hp:p<=w.heap.size
 ·exact .inl ⟨h.os,h.tape,h.output,h.size,fun k hk=>h.block k (by omega) (fun e=>by injection e with e;omega)⟩
 ·exact .inr (by omega)
def Pc (d:Nat):Type:=Ins (IL d) × Value × Value × Value
def pc7 {d:Nat} (p:Pc d):List Value:=[.int .i64 p.1.op,.int .i64 p.1.a,.int .i64 p.1.b,.int .i64 p.1.n,p.2.1,p.2.2.1,p.2.2.2]
def flat7 {d:Nat} (ps:List (Pc d)):List Value:=ps.flatMap pc7
structure PcOk {d:Nat} (w:World) (S:Nat->Prop) (p:Pc d):Prop where
 labels:IntsS w S p.2.1 p.1.labels
 body:AtS w S d p.2.2.1 p.1.body
 els:AtS w S d p.2.2.2 p.1.els
theorem PcOk.keep {d:Nat} {w w':World} {S S':Nat->Prop} (hk:∀k,S k->S' k/\w'.heap[k]?=w.heap[k]?) {p:Pc d} (h:PcOk w S p):PcOk w' S' p:=⟨h.labels.keep hk,AtS.keep hk _ _ _ h.body,AtS.keep hk _ _ _ h.els⟩
theorem flat7_get {d:Nat}:∀(ps:List (Pc d)) (i:Nat) (p:Pc d),ps[i]?=some p->∀k v,(pc7 p)[k]?=some v->(flat7 ps)[i*7+k]?=some v
 | [],_,_,h,_,_,_=>by simp at h
 | q :: r,0,p,h,k,v,hv=>by
  have:q=p:=by simpa using h
  subst this
  show (pc7 q++flat7 r)[0*7+k]?=some v
  have hk:k<(pc7 q).length:=(List.getElem?_eq_some_iff.1 hv).1
  rw [Nat.zero_mul,Nat.zero_add,List.getElem?_append_left hk]
  exact hv
 | q :: r,i+1,p,h,k,v,hv=>by
  have h':r[i]?=some p:=by simpa using h
  show (pc7 q++flat7 r)[(i+1)*7+k]?=some v
  rw [List.getElem?_append_right (by show 7<=_;omega),show (i+1)*7+k-(pc7 q).length=i*7+k by show (i+1)*7+k-7=_;omega]
  exact flat7_get r i p h' k v hv
theorem flat7_one {d:Nat} (ps:List (Pc d)) (h:∀p ∈ ps,p.2.1.oneCell'=true/\p.2.2.1.oneCell'=true/\p.2.2.2.oneCell'=true):∀u ∈ flat7 ps,u.oneCell'=true:=by
 intro u hu
 obtain ⟨p,hp,hu⟩:=List.mem_flatMap.1 hu
 obtain ⟨h1,h2,h3⟩:=h p hp
 simp only [pc7,List.mem_cons,List.mem_nil_iff,or_false] at hu
 rcases hu with rfl|rfl|rfl|rfl|rfl|rfl|rfl
 ·rfl
 ·rfl
 ·rfl
 ·rfl
 ·exact h1
 ·exact h2
 ·exact h3
theorem at_of_row {d:Nat} {w:World} {B:Nat} {t:Value} (l:List (Ins (IL d))) (ps:List (Pc d)) (hm:ps.map (·.1)=l) (hn:l.length<=9223372036854775807) (ho:w.ownsRow B 75 7 t ps.length (flat7 ps)) (hp:∀p ∈ ps,PcOk w (Since B w t.ownBlock) p) :
  AtS w (Since B w none) (d+1) t l:=by
 have hlen:ps.length=l.length:=by rw [<- hm,List.length_map]
 have hup:∀k,Since B w t.ownBlock k->Since B w none k/\w.heap[k]?=w.heap[k]?:=fun k hk=>⟨⟨hk.1,hk.2.1,by simp⟩,rfl⟩
 rcases ho.2 with ⟨rfl,h0⟩|⟨g,cap,cur,rfl,hbg,hg,_,_,_,_⟩
 ·have:l = []:=List.length_eq_zero_iff.1 (by omega)
  subst this
  exact ⟨by simp,.inl ⟨rfl,none,0,rfl⟩⟩
 ·have hgl:g<w.heap.size:=(Array.getElem?_eq_some_iff.1 hg).1
  refine ⟨hn,.inr ⟨g,0,cap,by rw [hlen],fun i x hx=>?_⟩⟩
  have hi:i<ps.length:=by rw [hlen];exact (List.getElem?_eq_some_iff.1 hx).1
  obtain ⟨p,hpi⟩:∃p,ps[i]?=some p:=⟨_,List.getElem?_eq_getElem hi⟩
  have hpx:p.1=x:=by
   have:(ps.map (·.1))[i]?=some p.1:=by rw [List.getElem?_map,hpi];rfl
   rw [hm,hx] at this
   exact (Option.some.inj this).symm
  subst hpx
  have hok:=(hp p (List.mem_of_getElem? hpi)).keep hup
  have hc:∀k v,(pc7 p)[k]?=some v->w.cell? ⟨g,0+i*7+k,none⟩=some v:=fun k v hv=>by
   have:=ho.cells (g:=g) rfl (i*7+k) v (flat7_get ps i p hpi k v hv)
   rw [add_addr] at this
   rw [Nat.add_assoc]
   exact this
  exact ⟨⟨hbg,hgl,by simp⟩,hc 0 _ rfl,hc 1 _ rfl,hc 2 _ rfl,hc 3 _ rfl,⟨_,hc 4 _ rfl,hok.labels⟩,⟨_,hc 5 _ rfl,hok.body⟩,⟨_,hc 6 _ rfl,hok.els⟩⟩
end Rep
theorem intInfo:(Tryd.prog.info? 3).map (fun i=>(i.zero,i.size,i.bytes))=some (some (.int .i64 0),1,8):=by kernel_rfl
theorem insInfo:(Tryd.prog.info? 75).map (fun i=>(i.zero,i.size,i.bytes))=some (some (.agg #[.int .i64 0,.int .i64 0,.int .i64 0,.int .i64 0,.slice none 0 0,.slice none 0 0,.slice none 0 0]),7,104):=by kernel_rfl
namespace Rep
theorem ints_own {w:World} {B:Nat} {v:Value} {l:List Int} (h:w.ownsRow B 3 1 v l.length (l.map fun z=>Value.int .i64 z)) (hn:l.length<=9223372036854775807):IntsS w (Since B w none) v l:=by
 rcases h.2 with ⟨rfl,h0⟩|⟨g,cap,cur,rfl,hbg,hg,_,_,_,_⟩
 ·obtain rfl:l = []:=List.length_eq_zero_iff.1 h0
  exact ⟨hn,.inl ⟨rfl,none,0,rfl⟩⟩
 ·have hgl:g<w.heap.size:=(Array.getElem?_eq_some_iff.1 hg).1
  refine ⟨hn,.inr ⟨g,0,cap,rfl,fun i x hx=>⟨⟨hbg,hgl,by simp⟩,?_⟩⟩⟩
  have:=h.cells (g:=g) rfl i (.int .i64 x) (by rw [List.getElem?_map,hx];rfl)
  rw [add_addr] at this
  rw [Nat.mul_one];exact this
theorem own_on {w w':World} {B:Nat} {e:TypeId} {size:Nat} {v:Value} {n:Nat} {xs:List Value} (h:w.ownsRow B e size v n xs) (hb:Below w.heap.size w w'):w'.ownsRow B e size v n xs :=
 ⟨h.1,h.2.imp id fun ⟨g,cap,cur,h1,h2,h3,h4⟩=>⟨g,cap,cur,h1,h2,by rw [hb.block g (Array.getElem?_eq_some_iff.1 h3).1];exact h3,h4⟩⟩
def mkPc {d:Nat} (x:Ins (IL d)) (a b c:Value):Pc d:=(x,a,b,c)
theorem flat7_snoc {d:Nat} (ps:List (Pc d)) (p:Pc d):flat7 (ps++[p])=flat7 ps++pc7 p:=by
 unfold flat7;rw [List.flatMap_append];simp
theorem pc7_one {d:Nat} (p:Pc d) (h1:p.2.1.oneCell'=true) (h2:p.2.2.1.oneCell'=true) (h3:p.2.2.2.oneCell'=true):∀u ∈ pc7 p,u.oneCell'=true:=by
 have:=flat7_one [p] (fun q hq=>by rw [List.mem_singleton.1 hq];exact ⟨h1,h2,h3⟩)
 intro u hu
 exact this u (by show u ∈ List.flatMap pc7 [p];simpa using hu)
theorem pc7_cells {d:Nat} {w:World} {g:Nat} {x:Ins (IL d)} {v4 v5 v6:Value} (h:Blk w g x.op x.a x.b x.n v4 v5 v6):∀j u,(pc7 (mkPc x v4 v5 v6))[j]?=some u->w.cell? ((⟨g,0,none⟩:Addr).add j)=some u:=fun j u hj=>by
 rw [add_addr,Nat.zero_add]
 refine h.cell j u ?_
 rw [<- hj]
 exact List.getElem?_toArray
theorem own_slice {w:World} {B:Nat} {e:TypeId} {size:Nat} {v:Value} {n:Nat} {xs:List Value} (h:w.ownsRow B e size v n xs):∃o c,v=.slice o n c:=by
 rcases h.2 with ⟨rfl,rfl⟩|⟨g,cap,cur,rfl,_⟩
 ·exact ⟨none,0,rfl⟩
 ·exact ⟨_,_,rfl⟩
end Rep
end Go.Proofs.YtgbbmdknbflilaaDoor

namespace Go.Proofs.YtgbbmdknbflilaaDoor
open Go.RowKit
namespace Leb
theorem byte_all (p:Nat->Bool) (h:(List.range 256).all p=true) (c:Int) (h0:0<=c) (h1:c<=255):p c.toNat=true:=by
 rw [List.all_eq_true] at h
 exact h _ (List.mem_range.2 (by omega))
theorem and127_u8 (c:Int) (h0:0<=c) (h1:c<=255):bits .and .u8 c 127=c%128:=by
 have:=byte_all (fun n=>bits .and .u8 (n:Int) 127 == (n:Int)%128) (by decide +kernel) c h0 h1
 simp only [beq_iff_eq] at this
 rwa [Int.toNat_of_nonneg h0] at this
theorem and64_u8 (c:Int) (h0:0<=c) (h1:c<=255):bits .and .u8 c 64=if 64<=c%128 then 64 else 0:=by
 have:=byte_all (fun n=>bits .and .u8 (n:Int) 64 == if 64<=(n:Int)%128 then 64 else 0) (by decide +kernel) c h0 h1
 simp only [beq_iff_eq] at this
 rwa [Int.toNat_of_nonneg h0] at this
theorem or_u64 (i:Nat) (x y:Int) (hx0:0<=x) (hx1:x<=18446744073709551615) (hx:x%2 ^ i=0) (hy0:0<=y) (hy:y<2 ^ i) (hy1:y<=18446744073709551615):bits .or .u64 x y=x+y:=by
 rw [u64_or x y hx0 (by omega) hy0 (by omega),nat_join i]
 ·omega
 ·have:((x.toNat%2 ^ i:Nat):Int)=0:=by rw [Int.natCast_emod,Int.toNat_of_nonneg hx0];simpa using hx
  exact_mod_cast this
 ·have:((y.toNat:Nat):Int)<((2 ^ i:Nat):Int):=by rw [Int.toNat_of_nonneg hy0];simpa using hy
  exact_mod_cast this
theorem or_u64' (i:Nat) (x y:Int) (hx0:0<=x) (hx1:x<=18446744073709551615) (hx:x%2 ^ i=0) (hy0:0<=y) (hy:y<2 ^ i) (hy1:y<=18446744073709551615):bits .or .u64 y x=y+x:=by
 rw [u64_or y x hy0 (by omega) hx0 (by omega),Nat.or_comm,nat_join i]
 ·omega
 ·have:((x.toNat%2 ^ i:Nat):Int)=0:=by rw [Int.natCast_emod,Int.toNat_of_nonneg hx0];simpa using hx
  exact_mod_cast this
 ·have:((y.toNat:Nat):Int)<((2 ^ i:Nat):Int):=by rw [Int.toNat_of_nonneg hy0];simpa using hy
  exact_mod_cast this
end Leb
end Go.Proofs.YtgbbmdknbflilaaDoor

