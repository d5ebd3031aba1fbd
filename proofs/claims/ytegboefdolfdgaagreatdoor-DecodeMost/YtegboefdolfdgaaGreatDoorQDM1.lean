/- Texts that the claim needs. -/
import Derived.Test.YtegboefdolfdgaaGreatDoorQDM0
import Derived.Deep.RegionWith
import Derived.Laws.AppendOwn
import Derived.Laws.AppendOwnNone
import Derived.OwnWalk
import Derived.ProofKit
import Derived.OpenShut
import Derived.Lib.SmallJoins
import Derived.WalkKit
import Derived.Laws.BitsAllLaws
import Derived.Test.YtegboefdolfdgaaGreatDoorRows
import Derived.WalkSpells
import Derived.WalkSmall
import Derived.BigQuiet
import Derived.Deep.QuietTactic
namespace Go.Proofs.YtegboefdolfdgaaGreatDoor
open Go.RowKit aA
set_option linter.unusedVariables false
namespace aA
structure FT where
 params:List Int
 results:List Int
structure lK where
 mod:ByteArray
 name:ByteArray
 type:Int
structure uF (d:Nat) where
 type:Int
 locals:List Int
 body:IL d
structure iL where
 min:Int
 max:Int
 has:Bool
structure lL (d:Nat) where
 type:Int
 fT:Bool
 init:Ins (IL d)
structure lM where
 name:ByteArray
 kind:Int
 index:Int
structure kZ (d:Nat) where
 offset:Ins (IL d)
 funcs:List Int
structure Dat (d:Nat) where
 offset:Ins (IL d)
 bytes:ByteArray
structure Mod (d:Nat) where
 types:List FT
 imports:List lK
 funcs:List (uF d)
 tables:List iL
 dU:List iL
 globals:List (lL d)
 exports:List lM
 start:List Int
 elems:List (kZ d)
 dV:List (Dat d)
structure sM (w:World) (bk o:Nat) (x:FT):Prop where
 params:∃v,w.cell? ⟨bk,o,none⟩=.some v/\Ints w v x.params
 results:∃v,w.cell? ⟨bk,o+1,none⟩=.some v/\Ints w v x.results
structure qO (w:World) (bk o:Nat) (x:lK):Prop where
 mod:w.cell? ⟨bk,o,none⟩=.some (.string x.mod)
 name:w.cell? ⟨bk,o+1,none⟩=.some (.string x.name)
 type:w.cell? ⟨bk,o+2,none⟩=.some (.int .i64 x.type)
structure sN (w:World) (d:Nat) (bk o:Nat) (x:uF d):Prop where
 type:w.cell? ⟨bk,o,none⟩=.some (.int .i64 x.type)
 locals:∃v,w.cell? ⟨bk,o+1,none⟩=.some v/\Ints w v x.locals
 body:∃v,w.cell? ⟨bk,o+2,none⟩=.some v/\At w d v x.body
structure oK (w:World) (bk o:Nat) (x:iL):Prop where
 min:w.cell? ⟨bk,o,none⟩=.some (.int .i64 x.min)
 max:w.cell? ⟨bk,o+1,none⟩=.some (.int .i64 x.max)
 has:w.cell? ⟨bk,o+2,none⟩=.some (.bool x.has)
structure sO (w:World) (d:Nat) (bk o:Nat) (x:lL d):Prop where
 type:w.cell? ⟨bk,o,none⟩=.some (.int .i64 x.type)
 fT:w.cell? ⟨bk,o+1,none⟩=.some (.bool x.fT)
 init:mQ w (At w d) bk (o+2) x.init
structure qP (w:World) (bk o:Nat) (x:lM):Prop where
 name:w.cell? ⟨bk,o,none⟩=.some (.string x.name)
 kind:w.cell? ⟨bk,o+1,none⟩=.some (.int .i64 x.kind)
 index:w.cell? ⟨bk,o+2,none⟩=.some (.int .i64 x.index)
structure sP (w:World) (d:Nat) (bk o:Nat) (x:kZ d):Prop where
 offset:mQ w (At w d) bk o x.offset
 funcs:∃v,w.cell? ⟨bk,o+7,none⟩=.some v/\Ints w v x.funcs
structure sQ (w:World) (d:Nat) (bk o:Nat) (x:Dat d):Prop where
 offset:mQ w (At w d) bk o x.offset
 bytes:w.cell? ⟨bk,o+7,none⟩=.some (.string x.bytes)
structure pX (w:World) (d:Nat) (v0 v1 v2 v3 v4 v5 v6 v7 v8 v9:Value) (m:Mod d):Prop where
 types:Row 2 (sM w) v0 m.types
 imports:Row 3 (qO w) v1 m.imports
 funcs:Row 3 (sN w d) v2 m.funcs
 tables:Row 3 (oK w) v3 m.tables
 dU:Row 3 (oK w) v4 m.dU
 globals:Row 9 (sO w d) v5 m.globals
 exports:Row 3 (qP w) v6 m.exports
 start:Ints w v7 m.start
 elems:Row 8 (sP w d) v8 m.elems
 dV:Row 8 (sQ w d) v9 m.dV
section On
variable {w w':World} (hb:Below w.heap.size w w')
include hb
theorem sM.on {bk o:Nat} {x:FT} (h:sM w bk o x):sM w' bk o x :=
 ⟨let ⟨v,a,b⟩:=h.params;⟨v,aF hb a,b.on hb⟩,let ⟨v,a,b⟩:=h.results;⟨v,aF hb a,b.on hb⟩⟩
theorem qO.on {bk o:Nat} {x:lK} (h:qO w bk o x):qO w' bk o x:=⟨aF hb h.mod,aF hb h.name,aF hb h.type⟩
theorem sN.on {d bk o:Nat} {x:uF d} (h:sN w d bk o x):sN w' d bk o x :=
 ⟨aF hb h.type,let ⟨v,a,b⟩:=h.locals;⟨v,aF hb a,b.on hb⟩,let ⟨v,a,b⟩:=h.body;⟨v,aF hb a,At.on hb d v _ b⟩⟩
theorem oK.on {bk o:Nat} {x:iL} (h:oK w bk o x):oK w' bk o x:=⟨aF hb h.min,aF hb h.max,aF hb h.has⟩
theorem sO.on {d bk o:Nat} {x:lL d} (h:sO w d bk o x):sO w' d bk o x:=⟨aF hb h.type,aF hb h.fT,h.init.on hb (At.on hb d)⟩
theorem qP.on {bk o:Nat} {x:lM} (h:qP w bk o x):qP w' bk o x:=⟨aF hb h.name,aF hb h.kind,aF hb h.index⟩
theorem sP.on {d bk o:Nat} {x:kZ d} (h:sP w d bk o x):sP w' d bk o x:=⟨h.offset.on hb (At.on hb d),let ⟨v,a,b⟩:=h.funcs;⟨v,aF hb a,b.on hb⟩⟩
theorem sQ.on {d bk o:Nat} {x:Dat d} (h:sQ w d bk o x):sQ w' d bk o x:=⟨h.offset.on hb (At.on hb d),aF hb h.bytes⟩
theorem pX.on {d : Nat} {v0 v1 v2 v3 v4 v5 v6 v7 v8 v9 : Value} {m : Mod d} (h : pX w d v0 v1 v2 v3 v4 v5 v6 v7 v8 v9 m) : pX w' d v0 v1 v2 v3 v4 v5 v6 v7 v8 v9 m :=
  ⟨h.types.imp fun _ _ _ _ => sM.on hb, h.imports.imp fun _ _ _ _ => qO.on hb, h.funcs.imp fun _ _ _ _ => sN.on hb, h.tables.imp fun _ _ _ _ => oK.on hb, h.dU.imp fun _ _ _ _ => oK.on hb,
   h.globals.imp fun _ _ _ _ => sO.on hb, h.exports.imp fun _ _ _ _ => qP.on hb, h.start.on hb, h.elems.imp fun _ _ _ _ => sP.on hb, h.dV.imp fun _ _ _ _ => sQ.on hb⟩
end On
def size:(d:Nat)->IL d->Nat
 | 0,_=>0
 | _+1,l=>List.length l
theorem At.len {w:World}:∀(d:Nat) (v:Value) (l:IL d),At w d v l->∃o cap,v=.slice o (size d l) cap
 | 0,_,_,h=>h
 | _+1,_,_,h=>Row.len h
end aA
theorem aa {p:Prop} (h:p):Hid p:=h
theorem cu {w u v:World} (h:Below w.heap.size w u) (k:Below u.heap.size u v):Below w.heap.size w v:=h.trans (k.mono h.size)
theorem aD (w:World) (o:Obj):Below w.heap.size w (w.alloc o):=(Below.refl _ w).alloc (Nat.le_refl _) o
theorem gV (w:World):Below w.heap.size w w.drew:=(Below.refl _ w).drew
section App
variable {P:Program}
theorem P9 (w:World) (base:Nat) (t ty e:TypeId) (i:TypeInfo) (z:Value) (size bytes:Nat) (ht:P.underlying t=some (.slice e)) (hi:P.info? e=some i) (hz:i.zero=some z)
  (hsize:i.size=size) (hby:i.bytes=bytes) (hzs:z.cells.size=size) (hsz:0<size)
  (v:Value) (n:Nat) (xs:List Value) (hown:w.ownsRow base e size v n xs)
  (a:Addr) (m c:Nat) (news:List Value) (hl:news.length=m*size) (hnews:∀j u,news[j]?=some u->w.cell? (a.add j)=some u) (h1:∀u ∈ news,u.oneCell'=true)
  (h63:n+m<=maxLen) (hbytes:(n+m)*bytes<=140737488355328) (hbase:base<=w.heap.size) :
  ∃v' w',(Builtin.append_ #[t,t] ty #[v,.slice (some a) m c]).run P w=.ok v' w'/\w'.ownsRow base e size v' (n+m) (xs++news)/\w.grownBy w' v.ownBlock /\
   (v'.ownBlock=v.ownBlock\/v'.ownBlock=some w.heap.size):=by
 obtain ⟨v',w',hr,h2,h3,h4⟩:=run_append_own (P:=P) w base t ty e i z size bytes ht hi hz hsize hby hzs hsz v n xs hown a m c news hl hnews h1 h63 hbytes hbase;refine ⟨v',w',hr,h2,h3,?_⟩;subst hsize;subst hby;unfold maxLen at h63;rcases hown.2 with ⟨rfl,rfl⟩|⟨g,cap,cur,rfl,hbg,hg,hnc,hcm,hcs,htake⟩
 ·by_cases hm:m=0
  ·left;rw [h4.2 ⟨rfl,hm⟩]
  ·rw [run_append_nil (P:=P) w t ty e i z ht hi hz a m c news hl hnews (by omega) (by omega) (by simp only [Nat.zero_add] at hbytes;omega)] at hr;injection hr with hv _;right;rw [<- hv];rfl
 ·by_cases hroom:n+m<=cap
  ·have hfit:n*i.size+news.length<=cur.size:=by rw [hl,hcs,<- Nat.add_mul];exact Nat.mul_le_mul_right _ hroom
   rw [run_append_room (P:=P) w t ty e i ht hi g n cap cur hg a m c news hl hnews h1 hroom hfit] at hr;injection hr with hv _;left;rw [<- hv];rfl
  ·have holds:∀j u,xs[j]?=some u->w.cell? ((⟨g,0,none⟩:Addr).add j)=some u:=hown.cells (g:=g) rfl;rw [run_append_grow (P:=P) w t ty e i z ht hi hz ⟨g,0,none⟩ n cap xs hown.1 holds a m c news hl hnews (by omega) (by omega) (growslice_fits (by omega) hbytes)] at hr;injection hr with hv _;right;rw [<- hv];rfl
theorem Qa (w:World) (base:Nat) (t ty e:TypeId) (i:TypeInfo) (size:Nat) (ht:P.underlying t=some (.slice e)) (hi:P.info? e=some i) (v:Value) (n:Nat) (xs:List Value) (hown:w.ownsRow base e size v n xs) (c:Nat) :
  (Builtin.append_ #[t,t] ty #[v,.slice none 0 c]).run P w=.ok v w:=by
 rcases hown.2 with ⟨rfl,rfl⟩|⟨g,cap,cur,rfl,_,_,hnc,_⟩
 ·simp [Builtin.append_,run_underlying ht,sizeOf,typeInfo,hi,Builtin.lenOf,Builtin.firstCells]
 ·simp [Builtin.append_,run_underlying ht,sizeOf,typeInfo,hi,Builtin.lenOf,Builtin.firstCells,hnc,storeCells]
theorem Fp (w:World) (base:Nat) (t ty e:TypeId) (i:TypeInfo) (z:Value) (size bytes:Nat) (ht:P.underlying t=some (.slice e)) (hi:P.info? e=some i) (hz:i.zero=some z)
  (hsize:i.size=size) (hby:i.bytes=bytes) (hzs:z.cells.size=size) (hsz:0<size)
  (v:Value) (n:Nat) (xs:List Value) (hown:w.ownsRow base e size v n xs)
  (xo:Option Addr) (m c:Nat) (news:List Value) (xI:xo=none->m=0) (hl:news.length=m*size) (hnews:∀ad,xo=some ad->∀j u,news[j]?=some u->w.cell? (ad.add j)=some u) (h1:∀u ∈ news,u.oneCell'=true)
  (h63:n+m<=maxLen) (hbytes:(n+m)*bytes<=140737488355328) (hbase:base<=w.heap.size) :
  ∃v' w',(Builtin.append_ #[t,t] ty #[v,.slice xo m c]).run P w=.ok v' w'/\w'.ownsRow base e size v' (n+m) (xs++news)/\w.grownBy w' v.ownBlock /\
   (v'.ownBlock=v.ownBlock\/v'.ownBlock=some w.heap.size):=by
 cases xo with
 | none =>
  obtain rfl:=xI rfl;obtain rfl:news = []:=List.eq_nil_of_length_eq_zero (by simpa using hl);refine ⟨v,w,Qa w base t ty e i size ht hi v n xs hown c,by simpa using hown,⟨rfl,rfl,rfl,Nat.le_refl _,fun _ _ _=>rfl⟩,.inl rfl⟩
 | some a=>exact P9 w base t ty e i z size bytes ht hi hz hsize hby hzs hsz v n xs hown a m c news hl (hnews a rfl) h1 h63 hbytes hbase
theorem iN {w:World} {ops:Array Oper} {rest:List Oper} {o:Oper} {a:Act} {Q:Exit->Act->World->Prop} (hgd:o.guard=none) (s x:Operand) (t:TypeId)
  (ho:o.op=.call { callee:=.builtin .append,args:=#[s,x],argTypes:=#[t,t] })
  (base:Nat) (e:TypeId) (i:TypeInfo) (z:Value) (size bytes:Nat) (ht:P.underlying t=some (.slice e)) (hi:P.info? e=some i) (hz:i.zero=some z)
  (hsize:i.size=size) (hby:i.bytes=bytes) (hzs:z.cells.size=size) (hsz:0<size)
  (v:Value) (n:Nat) (xs:List Value) (hs:a.eval s=v) (hown:w.ownsRow base e size v n xs)
  (xo:Option Addr) (m c:Nat) (news:List Value) (hx:a.eval x=.slice xo m c) (xI:xo=none->m=0) (hl:news.length=m*size) (hnews:∀ad,xo=some ad->∀j u,news[j]?=some u->w.cell? (ad.add j)=some u) (h1:∀u ∈ news,u.oneCell'=true)
  (h63:n+m<=maxLen) (hbytes:(n+m)*bytes<=140737488355328) (hbase:base<=w.heap.size)
  (h:∀v' w',w'.ownsRow base e size v' (n+m) (xs++news)->w.grownBy w' v.ownBlock->(v'.ownBlock=v.ownBlock\/v'.ownBlock=some w.heap.size)->wpList P ops Q rest (a.put o.dst v') w'):wpList P ops Q (o :: rest) a w:=by
 refine wpList_plain hgd fun K hK=>?_;obtain ⟨v',w',hr,h2,h3,h4⟩:=Fp w base t o.type e i z size bytes ht hi hz hsize hby hzs hsz v n xs hown xo m c news xI hl hnews h1 h63 hbytes hbase;unfold Oper.wp;simp [execOp,ho,resolve,invoke,builtin,hs,hx,hr,Result.andThen];exact hK _ _ (h v' w' h2 h3 h4)
end App
namespace aA
def aH (w:World) (S:Nat->Prop) (v:Value) (l:List Int):Prop:=Row 1 (fun b o (z:Int)=>S b/\w.cell? ⟨b,o,none⟩=.some (.int .i64 z)) v l
structure tq {α:Type} (w:World) (S:Nat->Prop) (sub:Value->α->Prop) (bk o:Nat) (x:Ins α):Prop where
 op:w.cell? ⟨bk,o,none⟩=.some (.int .i64 x.op)
 a:w.cell? ⟨bk,o+1,none⟩=.some (.int .i64 x.a)
 b:w.cell? ⟨bk,o+2,none⟩=.some (.int .i64 x.b)
 n:w.cell? ⟨bk,o+3,none⟩=.some (.int .i64 x.n)
 labels:∃v,w.cell? ⟨bk,o+4,none⟩=.some v/\aH w S v x.labels
 body:∃v,w.cell? ⟨bk,o+5,none⟩=.some v/\sub v x.body
 els:∃v,w.cell? ⟨bk,o+6,none⟩=.some v/\sub v x.els
def ah (w:World) (S:Nat->Prop):(d:Nat)->Value->IL d->Prop
 | 0,v,_=>∃o cap,v=.slice o 0 cap
 | d+1,v,l=>Row 7 (fun b o (x:Ins (IL d))=>S b/\tq w S (ah w S d) b o x) v l
theorem aH.at {w:World} {S:Nat->Prop} {v:Value} {l:List Int} (h:aH w S v l):Ints w v l:=Row.imp h fun _ _ _ _ h=>h.2
theorem ah.at {w:World} {S:Nat->Prop}:∀(d:Nat) (v:Value) (l:IL d),ah w S d v l->At w d v l
 | 0,_,_,h=>h
 | d+1,_,_,h=>Row.imp (α:=Ins (IL d)) h fun _ _ _ _ ⟨_,h⟩=>⟨h.op,h.a,h.b,h.n,let ⟨v,a,b⟩:=h.labels;⟨v,a,b.at⟩,let ⟨v,a,b⟩:=h.body;⟨v,a,ah.at d v _ b⟩,let ⟨v,a,b⟩:=h.els;⟨v,a,ah.at d v _ b⟩⟩
theorem dE {w w':World} {S S':Nat->Prop} (hk:∀k,S k->S' k/\w'.heap[k]?=w.heap[k]?) {b o:Nat} {u:Value} (hb:S b) (h:w.cell? ⟨b,o,none⟩=.some u):w'.cell? ⟨b,o,none⟩=.some u :=
 (World.cell?_of_block (a:=⟨b,o,none⟩) (hk b hb).2).trans h
theorem aH.keep {w w':World} {S S':Nat->Prop} (hk:∀k,S k->S' k/\w'.heap[k]?=w.heap[k]?) {v:Value} {l:List Int} (h:aH w S v l):aH w' S' v l :=
 Row.imp h fun b _ _ _ h=>⟨(hk b h.1).1,dE hk h.1 h.2⟩
theorem ah.keep {w w':World} {S S':Nat->Prop} (hk:∀k,S k->S' k/\w'.heap[k]?=w.heap[k]?):∀(d:Nat) (v:Value) (l:IL d),ah w S d v l->ah w' S' d v l
 | 0,_,_,h=>h
 | d+1,_,_,h=>Row.imp (α:=Ins (IL d)) h fun b _ _ _ ⟨hb,h⟩=>⟨(hk b hb).1,dE hk hb h.op,dE hk hb h.a,dE hk hb h.b,dE hk hb h.n,let ⟨v,a,c⟩:=h.labels;⟨v,dE hk hb a,c.keep hk⟩,let ⟨v,a,c⟩:=h.body;⟨v,dE hk hb a,ah.keep hk d v _ c⟩,let ⟨v,a,c⟩:=h.els;⟨v,dE hk hb a,ah.keep hk d v _ c⟩⟩
def Since (B:Nat) (w:World) (row:Option Nat) (k:Nat):Prop:=B<=k/\k<w.heap.size/\some k≠row
theorem fw {B:Nat} {w w':World} {row:Option Nat} (hb:Below w.heap.size w w'):∀k,Since B w row k->Since B w' row k/\w'.heap[k]?=w.heap[k]?:=fun k hk =>
 ⟨⟨hk.1,Nat.lt_of_lt_of_le hk.2.1 hb.size,hk.2.2⟩,hb.block k hk.2.1⟩
theorem oC {B:Nat} {w w':World} {v v':Value} (hg:w.grownBy w' v.ownBlock) (hv:v'.ownBlock=v.ownBlock\/v'.ownBlock=some w.heap.size):∀k,Since B w v.ownBlock k->Since B w' v'.ownBlock k/\w'.heap[k]?=w.heap[k]?:=fun k hk=>by
 refine ⟨⟨hk.1,Nat.lt_of_lt_of_le hk.2.1 hg.size,?_⟩,hg.block k hk.2.1 hk.2.2⟩;rcases hv with h|h
 ·rw [h];exact hk.2.2
 ·rw [h];intro e;injection e with e
  have:=hk.2.1
  omega
end aA
namespace aA
theorem ry (b o k:Nat):(⟨b,o,none⟩:Addr).add k=⟨b,o+k,none⟩:=by
 by_cases hk:k=0
 ·subst hk;rfl
 ·simp [Addr.add,hk]
variable {H:Type} {enc:TypeId × Value->H} {P:Program} {w:World} {base:Nat} {spare:Nat->Bool} {held:Bool}
end aA
section Of
variable {H:Type} {enc:TypeId × Value->H} {w:World} {base:Nat} {spare:Nat->Bool} {held:Bool}
end Of
namespace aA
def cF (w:World) (p:Nat) (op a b n:Int) (v4 v5 v6:Value):Prop:=w.heap[p]?=some (.cells #[.int .i64 op,.int .i64 a,.int .i64 b,.int .i64 n,v4,v5,v6] 73 (0,0))
theorem cF.new (w:World) (p:Nat) (op a b n:Int) (v4 v5 v6:Value) (hp:p=w.heap.size):cF (w.alloc (.cells #[.int .i64 op,.int .i64 a,.int .i64 b,.int .i64 n,v4,v5,v6] 73)) p op a b n v4 v5 v6:=by
 subst hp;exact heap_alloc_new w _
theorem cF.cell {w:World} {p:Nat} {op a b n:Int} {v4 v5 v6:Value} (h:cF w p op a b n v4 v5 v6) (i:Nat) (v:Value) (hv:#[Value.int .i64 op,.int .i64 a,.int .i64 b,.int .i64 n,v4,v5,v6][i]?=some v):w.cell? ⟨p,i,none⟩=some v:=by
 unfold World.cell?;rw [h];exact hv
theorem cF.ag {w:World} {p:Nat} {op a b n:Int} {v4 v5 v6:Value} (h:cF w p op a b n v4 v5 v6) (i:Nat):w.frozen? ⟨p,i,none⟩=false:=by
 unfold World.frozen?;rw [h];simp
theorem cF.keep {w w':World} {p:Nat} {op a b n:Int} {v4 v5 v6:Value} (h:cF w p op a b n v4 v5 v6) (hk:w'.heap[p]?=w.heap[p]?):cF w' p op a b n v4 v5 v6:=by unfold cF at *;rw [hk];exact h
theorem cF.xw {w:World} {p:Nat} {op a b n:Int} {v4 v5 v6:Value} (h:cF w p op a b n v4 v5 v6) (v:Value):cF (w.setCell ⟨p,4,none⟩ v) p op a b n v v5 v6:=heap_setCell_same w p 4 _ _ v h
theorem cF.pW {w:World} {p:Nat} {op a b n:Int} {v4 v5 v6:Value} (h:cF w p op a b n v4 v5 v6) (v:Value):cF (w.setCell ⟨p,5,none⟩ v) p op a b n v4 v v6:=heap_setCell_same w p 5 _ _ v h
theorem cF.xx {w:World} {p:Nat} {op a b n:Int} {v4 v5 v6:Value} (h:cF w p op a b n v4 v5 v6) (v:Value):cF (w.setCell ⟨p,6,none⟩ v) p op a b n v4 v5 v:=heap_setCell_same w p 6 _ _ v h
theorem cF.lt {w:World} {p:Nat} {op a b n:Int} {v4 v5 v6:Value} (h:cF w p op a b n v4 v5 v6):p<w.heap.size:=(Array.getElem?_eq_some_iff.1 h).1
def But (p:Nat) (w w':World):Prop:=w.grownBy w' (some p)
theorem But.below {p:Nat} {w w':World} (h:But p w w'):Below p w w'\/w.heap.size<p:=by
 by_cases hp:p<=w.heap.size
 ·exact .inl ⟨h.os,h.tape,h.output,h.size,fun k hk=>h.block k (by omega) (fun e=>by injection e with e;omega)⟩
 ·exact .inr (by omega)
def Pc (d:Nat):Type:=Ins (IL d) × Value × Value × Value
def iS {d:Nat} (p:Pc d):List Value:=[.int .i64 p.1.op,.int .i64 p.1.a,.int .i64 p.1.b,.int .i64 p.1.n,p.2.1,p.2.2.1,p.2.2.2]
def nT {d:Nat} (ps:List (Pc d)):List Value:=ps.flatMap iS
structure nk {d:Nat} (w:World) (S:Nat->Prop) (p:Pc d):Prop where
 labels:aH w S p.2.1 p.1.labels
 body:ah w S d p.2.2.1 p.1.body
 els:ah w S d p.2.2.2 p.1.els
theorem nk.keep {d:Nat} {w w':World} {S S':Nat->Prop} (hk:∀k,S k->S' k/\w'.heap[k]?=w.heap[k]?) {p:Pc d} (h:nk w S p):nk w' S' p:=⟨h.labels.keep hk,ah.keep hk _ _ _ h.body,ah.keep hk _ _ _ h.els⟩
theorem Jz {d:Nat}:∀(ps:List (Pc d)) (i:Nat) (p:Pc d),ps[i]?=some p->∀k v,(iS p)[k]?=some v->(nT ps)[i*7+k]?=some v
 | [],_,_,h,_,_,_=>by simp at h
 | q :: r,0,p,h,k,v,hv=>by
  have:q=p:=by simpa using h
  subst this;show (iS q++nT r)[0*7+k]?=some v;have hk:k<(iS q).length:=(List.getElem?_eq_some_iff.1 hv).1;rw [Nat.zero_mul,Nat.zero_add,List.getElem?_append_left hk];exact hv
 | q :: r,i+1,p,h,k,v,hv=>by
  have h':r[i]?=some p:=by simpa using h
  show (iS q++nT r)[(i+1)*7+k]?=some v;rw [List.getElem?_append_right (by show 7<=_;omega),show (i+1)*7+k-(iS q).length=i*7+k by show (i+1)*7+k-7=_;omega];exact Jz r i p h' k v hv
theorem SH {d:Nat} (ps:List (Pc d)) (h:∀p ∈ ps,p.2.1.oneCell'=true/\p.2.2.1.oneCell'=true/\p.2.2.2.oneCell'=true):∀u ∈ nT ps,u.oneCell'=true:=by
 intro u hu;obtain ⟨p,hp,hu⟩:=List.mem_flatMap.1 hu;obtain ⟨h1,h2,h3⟩:=h p hp;simp only [iS,List.mem_cons,List.mem_nil_iff,or_false] at hu;rcases hu with rfl|rfl|rfl|rfl|rfl|rfl|rfl
 ·rfl
 ·rfl
 ·rfl
 ·rfl
 ·exact h1
 ·exact h2
 ·exact h3
theorem JA {d:Nat} {w:World} {B:Nat} {t:Value} (l:List (Ins (IL d))) (ps:List (Pc d)) (hm:ps.map (·.1)=l) (hn:l.length<=9223372036854775807) (ho:w.ownsRow B 73 7 t ps.length (nT ps)) (hp:∀p ∈ ps,nk w (Since B w t.ownBlock) p) :
  ah w (Since B w none) (d+1) t l:=by
 have hlen:ps.length=l.length:=by rw [<- hm,List.length_map]
 have hup:∀k,Since B w t.ownBlock k->Since B w none k/\w.heap[k]?=w.heap[k]?:=fun k hk=>⟨⟨hk.1,hk.2.1,by simp⟩,rfl⟩;rcases ho.2 with ⟨rfl,h0⟩|⟨g,cap,cur,rfl,hbg,hg,_,_,_,_⟩
 ·have:l = []:=List.length_eq_zero_iff.1 (by omega)
  subst this;exact ⟨by simp,.inl ⟨rfl,none,0,rfl⟩⟩
 ·have hgl:g<w.heap.size:=(Array.getElem?_eq_some_iff.1 hg).1;refine ⟨hn,.inr ⟨g,0,cap,by rw [hlen],fun i x hx=>?_⟩⟩;have hi:i<ps.length:=by rw [hlen];exact (List.getElem?_eq_some_iff.1 hx).1
  obtain ⟨p,hpi⟩:∃p,ps[i]?=some p:=⟨_,List.getElem?_eq_getElem hi⟩
  have hpx:p.1=x:=by
   have:(ps.map (·.1))[i]?=some p.1:=by rw [List.getElem?_map,hpi];rfl
   rw [hm,hx] at this;exact (Option.some.inj this).symm
  subst hpx;have hok:=(hp p (List.mem_of_getElem? hpi)).keep hup
  have hc:∀k v,(iS p)[k]?=some v->w.cell? ⟨g,0+i*7+k,none⟩=some v:=fun k v hv=>by
   have:=ho.cells (g:=g) rfl (i*7+k) v (Jz ps i p hpi k v hv)
   rw [ry] at this;rw [Nat.add_assoc];exact this
  exact ⟨⟨hbg,hgl,by simp⟩,hc 0 _ rfl,hc 1 _ rfl,hc 2 _ rfl,hc 3 _ rfl,⟨_,hc 4 _ rfl,hok.labels⟩,⟨_,hc 5 _ rfl,hok.body⟩,⟨_,hc 6 _ rfl,hok.els⟩⟩
end aA
theorem qV:(Tryz.prog.info? 3).map (fun i=>(i.zero,i.size,i.bytes))=some (some (.int .i64 0),1,8):=by kernel_rfl
theorem yo:(Tryz.prog.info? 73).map (fun i=>(i.zero,i.size,i.bytes))=some (some (.agg #[.int .i64 0,.int .i64 0,.int .i64 0,.int .i64 0,.slice none 0 0,.slice none 0 0,.slice none 0 0]),7,104):=by kernel_rfl
namespace aA
theorem vZ {w:World} {B:Nat} {v:Value} {l:List Int} (h:w.ownsRow B 3 1 v l.length (l.map fun z=>Value.int .i64 z)) (hn:l.length<=9223372036854775807):aH w (Since B w none) v l:=by
 rcases h.2 with ⟨rfl,h0⟩|⟨g,cap,cur,rfl,hbg,hg,_,_,_,_⟩
 ·obtain rfl:l = []:=List.length_eq_zero_iff.1 h0;exact ⟨hn,.inl ⟨rfl,none,0,rfl⟩⟩
 ·have hgl:g<w.heap.size:=(Array.getElem?_eq_some_iff.1 hg).1;refine ⟨hn,.inr ⟨g,0,cap,rfl,fun i x hx=>⟨⟨hbg,hgl,by simp⟩,?_⟩⟩⟩
  have:=h.cells (g:=g) rfl i (.int .i64 x) (by rw [List.getElem?_map,hx];rfl)
  rw [ry] at this;rw [Nat.mul_one];exact this
theorem Ei {w w':World} {B:Nat} {e:TypeId} {size:Nat} {v:Value} {n:Nat} {xs:List Value} (h:w.ownsRow B e size v n xs) (hb:Below w.heap.size w w'):w'.ownsRow B e size v n xs :=
 ⟨h.1,h.2.imp id fun ⟨g,cap,cur,h1,h2,h3,h4⟩=>⟨g,cap,cur,h1,h2,by rw [hb.block g (Array.getElem?_eq_some_iff.1 h3).1];exact h3,h4⟩⟩
def jV {d:Nat} (x:Ins (IL d)) (a b c:Value):Pc d:=(x,a,b,c)
theorem JB {d:Nat} (ps:List (Pc d)) (p:Pc d):nT (ps++[p])=nT ps++iS p:=by
 unfold nT;rw [List.flatMap_append];simp
theorem yp {d:Nat} (p:Pc d) (h1:p.2.1.oneCell'=true) (h2:p.2.2.1.oneCell'=true) (h3:p.2.2.2.oneCell'=true):∀u ∈ iS p,u.oneCell'=true:=by
 have:=SH [p] (fun q hq=>by rw [List.mem_singleton.1 hq];exact ⟨h1,h2,h3⟩)
 intro u hu;exact this u (by show u ∈ List.flatMap iS [p];simpa using hu)
theorem SJ {d:Nat} {w:World} {g:Nat} {x:Ins (IL d)} {v4 v5 v6:Value} (h:cF w g x.op x.a x.b x.n v4 v5 v6):∀j u,(iS (jV x v4 v5 v6))[j]?=some u->w.cell? ((⟨g,0,none⟩:Addr).add j)=some u:=fun j u hj=>by
 rw [ry,Nat.zero_add];refine h.cell j u ?_;rw [<- hj];exact List.getElem?_toArray
theorem fU {w:World} {B:Nat} {e:TypeId} {size:Nat} {v:Value} {n:Nat} {xs:List Value} (h:w.ownsRow B e size v n xs):∃o c,v=.slice o n c:=by
 rcases h.2 with ⟨rfl,rfl⟩|⟨g,cap,cur,rfl,_⟩
 ·exact ⟨none,0,rfl⟩
 ·exact ⟨_,_,rfl⟩
end aA
end Go.Proofs.YtegboefdolfdgaaGreatDoor
namespace Go.Proofs.YtegboefdolfdgaaGreatDoor
open Go.RowKit
set_option maxHeartbeats 1000000
namespace ae
theorem JU (x:Int):((BitVec.ofInt 64 x).toNat:Int)=x%18446744073709551616:=by
 rw [BitVec.toNat_ofInt];have h:0<=x%18446744073709551616:=Int.emod_nonneg _ (by decide);have e:((2 ^ 64:Nat):Int)=18446744073709551616:=by decide
 rw [e];omega
theorem Em (p:Nat->Bool) (h:(List.range 256).all p=true) (c:Int) (h0:0<=c) (h1:c<=255):p c.toNat=true:=by
 rw [List.all_eq_true] at h;exact h _ (List.mem_range.2 (by omega))
theorem BN (c:Int) (h0:0<=c) (h1:c<=255):bits .and .u8 c 127=c%128:=by
 have:=Em (fun n=>bits .and .u8 (n:Int) 127 == (n:Int)%128) (by decide +kernel) c h0 h1
 simp only [beq_iff_eq] at this;rwa [Int.toNat_of_nonneg h0] at this
theorem O0 (c:Int) (h0:0<=c) (h1:c<=255):bits .or .u8 c 128=c%128+128:=by
 have:=Em (fun n=>bits .or .u8 (n:Int) 128 == (n:Int)%128+128) (by decide +kernel) c h0 h1
 simp only [beq_iff_eq] at this;rwa [Int.toNat_of_nonneg h0] at this
theorem JV (c:Int) (h0:0<=c) (h1:c<=255):bits .and .u8 c 64=if 64<=c%128 then 64 else 0:=by
 have:=Em (fun n=>bits .and .u8 (n:Int) 64 == if 64<=(n:Int)%128 then 64 else 0) (by decide +kernel) c h0 h1
 simp only [beq_iff_eq] at this;rwa [Int.toNat_of_nonneg h0] at this
theorem Te (i:Nat) (x y:Int) (hx0:0<=x) (hx1:x<=18446744073709551615) (hx:x%2 ^ i=0) (hy0:0<=y) (hy:y<2 ^ i) (hy1:y<=18446744073709551615):bits .or .u64 x y=x+y:=by
 rw [u64_or x y hx0 (by omega) hy0 (by omega),nat_join i]
 ·omega
 ·have:((x.toNat%2 ^ i:Nat):Int)=0:=by rw [Int.natCast_emod,Int.toNat_of_nonneg hx0];simpa using hx
  exact_mod_cast this
 ·have:((y.toNat:Nat):Int)<((2 ^ i:Nat):Int):=by rw [Int.toNat_of_nonneg hy0];simpa using hy
  exact_mod_cast this
theorem jJ (i:Nat) (x y:Int) (hx0:0<=x) (hx1:x<=18446744073709551615) (hx:x%2 ^ i=0) (hy0:0<=y) (hy:y<2 ^ i) (hy1:y<=18446744073709551615):bits .or .u64 y x=y+x:=by
 rw [u64_or y x hy0 (by omega) hx0 (by omega),Nat.or_comm,nat_join i]
 ·omega
 ·have:((x.toNat%2 ^ i:Nat):Int)=0:=by rw [Int.natCast_emod,Int.toNat_of_nonneg hx0];simpa using hx
  exact_mod_cast this
 ·have:((y.toNat:Nat):Int)<((2 ^ i:Nat):Int):=by rw [Int.toNat_of_nonneg hy0];simpa using hy
  exact_mod_cast this
theorem Tf (x y:Int) (hx0:-9223372036854775808<=x) (hx1:x<=9223372036854775807) (hx:x%128=0) (hy0:0<=y) (hy:y<128):bits .or .i64 x y=x+y:=by
 have h:=JU x;have h':=JU y;show IntKind.i64.wrap (((BitVec.ofInt 64 x ||| BitVec.ofInt 64 y).toNat:Nat):Int)=_;rw [BitVec.toNat_or,nat_join 7 _ _ (by simp only [Nat.reducePow];omega) (by simp only [Nat.reducePow];omega),IntKind.wrap_i64];omega
end ae
theorem fV {p:Prop} (h:p):Hid p:=h
theorem bI {p:Prop} (h:Hid p):p:=h
theorem TZ {a b:Bool} (h:a=b):Ending.returned (.bool a)=.returned (.bool b):=by rw [h]
theorem Eu {k:IntKind} {a b:Int} (h:a=b):Ending.returned (.int k a)=.returned (.int k b):=by rw [h]
theorem qY (s:ByteArray) (a bits:Int) (w:World) :
  Calls Tryz.prog 79 #[.string s,.int .i64 a,.int .i64 bits] w fun e w'=>e=.returned (.bool (ae.asks s.size a bits))/\w'=w:=by
 go_enter Tryz.func79,Tryz.ntmps79;go_wp2
 all_goals go_ret
 all_goals refine ⟨TZ ?_,rfl⟩
 all_goals (unfold ae.asks;rw [Bool.eq_iff_iff];simp only [decide_eq_true_eq];first|omega|(simp;omega))
theorem vX (bits:Int) (w:World) (h:bits=32\/bits=64) :
  Calls Tryz.prog 98 #[.int .i64 bits] w fun e w'=>e=.returned (.int .i64 (ae.most bits))/\w'=w:=by
 rcases h with rfl|rfl
 all_goals
  go_enter Tryz.func98,Tryz.ntmps98;go_wp2;go_ret;exact ⟨rfl,rfl⟩
theorem Bb (s:ByteArray) (a:Nat) (bits:Int) (w:World) (hs:s.size<=140737488351232) (ha:a<=s.size) (h:bits=32\/bits=64) :
  Calls Tryz.prog 80 #[.string s,.int .i64 a,.int .i64 bits] w fun e w'=>e=.returned (.int .i64 (ae.dX (ae.from_ s a) (s.size-a) (ae.most bits)))/\w'=w:=by
 have hg:=ae.get_bt s;have hm:(bits+6) / 7=(ae.most bits:Int)/\ae.most bits<=10/\0<=bits/\bits<=64:=by rcases h with rfl|rfl<;>decide
 obtain ⟨hm1,hm2,wT,VZ⟩:=hm;clear h;generalize ae.most bits=M at *;go_enter Tryz.func80,Tryz.ntmps80;go_wp2
 go_loop [8] (fun i=>∃k:Nat,k<=M/\k<=s.size-a/\i=.int .i64 k/\ae.dX (ae.from_ s a) (s.size-a) M=ae.iM (ae.from_ s a) (s.size-a) (M-k) k) (fun i=>10-(RowKit.intOf i).toNat)
 case atStart=>exact ⟨0,by omega,by omega,rfl,rfl⟩
 case round =>
  obtain ⟨k,hk,hk2,rfl,hgr⟩:=hrel;have HG:Hid (ae.dX (ae.from_ s a) (s.size-a) M=ae.iM (ae.from_ s a) (s.size-a) (M-k) k):=hgr;clear hgr;by_cases h1:k<M
  ·by_cases h2:a+k<s.size
   ·have hf:ae.from_ s a k=ae.bt s (a+k):=rfl;have hbd:=ae.lQ s (a+k);by_cases h3:ae.bt s (a+k)<128
    ·have hfin:ae.dX (ae.from_ s a) (s.size-a) M=k+1:=by rw [HG.out];exact ae.Fu _ _ _ _ (by omega) (by omega) h3
     clear HG hf;go_wp2;go_ret;exact ⟨rfl,rfl⟩
    ·have hfin:ae.dX (ae.from_ s a) (s.size-a) M=ae.iM (ae.from_ s a) (s.size-a) (M-(k+1)) (k+1):=by rw [HG.out];exact ae.Fw _ _ _ _ (by omega) (by omega) h3
     have HF:Hid (ae.dX (ae.from_ s a) (s.size-a) M=ae.iM (ae.from_ s a) (s.size-a) (M-(k+1)) (k+1)):=hfin;clear HG hf hfin;go_wp2
     go_round
     case rel=>exact ⟨k+1,by omega,by omega,by go_num,HF.out⟩
     case measure=>simp [RowKit.intOf];omega
   ·have hfin:ae.dX (ae.from_ s a) (s.size-a) M=0:=by rw [HG.out];exact ae.Fx _ _ _ _ (by omega)
    clear HG;go_wp2;go_ret;exact ⟨rfl,rfl⟩
  ·have hfin:ae.dX (ae.from_ s a) (s.size-a) M=0:=by rw [HG.out,show M-k=0 by omega];rfl
   clear HG;go_wp2;go_ret;exact ⟨rfl,rfl⟩
theorem start_eq {f:Nat->Int} {k:Nat} {V:Int} (h:ae.val f k=V):ae.val f k+128 ^ k*0=V:=by rw [Int.mul_zero,Int.add_zero];exact h
theorem T9 (N b:Int):bits .or .u64 (IntKind.u64.wrap (ae.bO N*128)) (b%128)=ae.bO (N*128+b%128):=by
 have hb:0<=b%128/\b%128<128:=by omega
 have e:IntKind.u64.wrap (ae.bO N*128)=ae.bO (ae.bO N*128):=by rw [IntKind.wrap_u64];rfl
 have h1:=ae.Bt (ae.bO N*128);rw [e,ae.Te 7 _ _ h1.1 h1.2 (ae.Pn _) hb.1 (by simpa using hb.2) (by omega)];exact ae.Pm N _ hb.1 hb.2
theorem yx {k:IntKind} {a b c a' b' c':Int} (h:(a,b,c)=(a',b',c')):Ending.returned (.tuple #[.int k a,.int .i64 b,.int .i64 c])=.returned (.tuple #[.int k a',.int .i64 b',.int .i64 c']):=by
 simp only [Prod.mk.injEq] at h;rw [h.1,h.2.1,h.2.2]
theorem c15 (s : ByteArray) (a bits : Int) (w : World) (hs : s.size ≤ 140737488351232) :
    Calls Tryz.prog 55 #[.string s, .int .i64 a, .int .i64 bits] w fun e w' =>
      e = .returned (.tuple #[.int .u64 (ae.fF s a bits).1, .int .i64 (ae.fF s a bits).2.1, .int .i64 (ae.fF s a bits).2.2]) ∧ w' = w := by
  by_cases di : ae.asks s.size a bits = true
  · have hq := ae.wH di
    obtain ⟨gN, ha0, ha1⟩ := hq;obtain ⟨a, rfl⟩ := Int.eq_ofNat_of_zero_le ha0;have hread : ae.fF s a bits = ae.nR (ae.from_ s a) (ae.dX (ae.from_ s a) (s.size - a) (ae.most bits)) a bits := by unfold ae.fF; rw [if_pos di, Int.toNat_natCast]; rfl
    rw [hread];have hg := ae.get_bt s;have ha : a ≤ s.size := by omega
    have xk : Hid (ae.asks s.size a bits = true) := di;have hks := ae.wG (ae.from_ s a) (s.size - a) (ae.most bits);have Al := Bb s a bits w hs ha gN;clear hread ha0 ha1 di;generalize ae.dX (ae.from_ s a) (s.size - a) (ae.most bits) = k at *;have hC := fV Al;clear Al;by_cases hbad : k = 0 ∨ (bits = 32 ∧ 4294967295 < ae.val (ae.from_ s a) k) ∨ (k = 10 ∧ 1 < ae.from_ s a 9)
    · have hfin : ae.nR (ae.from_ s a) k a bits = (0, 0, 10) := by unfold ae.nR; rw [if_pos hbad]
      rw [hfin]
      have lN : k = 0 ∨ (bits = 32 ∧ k = 5 ∧ 15 < ae.bt s (a + 4) ∧ a + 4 < s.size) ∨ (bits = 64 ∧ k = 10 ∧ 1 < ae.bt s (a + 9) ∧ a + 9 < s.size) := by
        by_cases hk0 : k = 0
        · exact .inl hk0
        · obtain ⟨k1, k2, k3, k4, k5⟩ := hks hk0
          rcases hbad with h | ⟨rfl, h⟩ | ⟨rfl, h⟩
          · exact .inl h
          · have hm : k ≤ 5 := k2
            have hk : k = 5 := by
              rcases Nat.lt_or_ge k 5 with h' | h'
              · have := ae.Gz (ae.from_ s a) k (by omega); omega
              · omega
            subst hk;have hbd := ae.vB s a 4;exact .inr (.inl ⟨rfl, rfl, (ae.GF _ hbd.1 k4).1 h, by omega⟩)
          · rcases gN with rfl | rfl
            · exact absurd k2 (by decide)
            · exact .inr (.inr ⟨rfl, rfl, h, by omega⟩)
      clear hbad hfin hks gN;rcases lN with rfl | ⟨rfl, rfl, h1, h2⟩ | ⟨rfl, rfl, h1, h2⟩
      all_goals
        go_enter Tryz.func55, Tryz.ntmps55;go_wp2_with fail;refine (qY _ _ _ _).mono ?_;rintro e w' ⟨rfl, rfl⟩;rw [xk.out];go_wp2_with fail;refine (bI hC).mono ?_;rintro e w' ⟨rfl, rfl⟩;go_wp2;go_ret3;exact ⟨rfl, rfl⟩
    · have hfin : ae.nR (ae.from_ s a) k a bits = (ae.val (ae.from_ s a) k, (a : Int) + (k : Int), 0) := by unfold ae.nR; rw [if_neg hbad]
      rw [hfin];have hk0 : k ≠ 0 := fun h => hbad (.inl h);obtain ⟨k1, k2, k3, k4, k5⟩ := hks hk0;have hsum : (a : Int) + k ≤ s.size := by omega
      have Bw : k ≤ 10 := by rcases gN with rfl | rfl <;> exact Nat.le_trans k2 (by decide)
      have hv : ae.val (ae.from_ s a) k ≤ 18446744073709551615 := by
        by_cases h10 : k = 10
        · subst h10
          have hbd := ae.vB s a 9;exact ae.GG _ hbd.1 (by have := fun h => hbad (.inr (.inr ⟨rfl, h⟩)); omega)
        · have := ae.qR (ae.from_ s a) k (by omega); omega
      have lN : (bits = 32 ∧ ((k = 5 ∧ ae.bt s (a + 4) ≤ 15 ∧ a + 4 < s.size) ∨ k < 5)) ∨ (bits = 64 ∧ (k = 5 ∨ (k = 10 ∧ ae.bt s (a + 9) ≤ 1 ∧ a + 9 < s.size) ∨ ((k : Int) ≠ 5 ∧ (k : Int) ≠ 10))) := by
        rcases gN with rfl | rfl
        · have hm : k ≤ 5 := k2
          by_cases h5 : k = 5
          · subst h5
            have hbd := ae.vB s a 4;have h4 : ¬ 15 < ae.from_ s a 4 := fun h => hbad (.inr (.inl ⟨rfl, (ae.GF _ hbd.1 k4).2 h⟩))
            exact .inl ⟨rfl, .inl ⟨rfl, by have : ae.from_ s a 4 = ae.bt s (a + 4) := rfl
                                           omega, by omega⟩⟩
          · exact .inl ⟨rfl, .inr (by omega)⟩
        · by_cases h5 : k = 5
          · exact .inr ⟨rfl, .inl h5⟩
          · by_cases h10 : k = 10
            · have h9 : ¬ 1 < ae.from_ s a 9 := fun h => hbad (.inr (.inr ⟨h10, h⟩))
              exact .inr ⟨rfl, .inr (.inl ⟨h10, by have : ae.from_ s a 9 = ae.bt s (a + 9) := rfl
                                                   omega, by omega⟩)⟩
            · exact .inr ⟨rfl, .inr (.inr (by omega))⟩
      clear hbad hfin hks gN k2 k4 k5;have Ua : ((k : Int) == 0) = false := by simp; omega
      have hv0 := (ae.qA (ae.from_ s a) k).1;generalize hV : ae.val (ae.from_ s a) k = V at *;have HV := fV hV;clear hV
      have BV : (bits = 32 ∧ ((k = 5 ∧ decide (15 < ae.bt s (a + 4)) = false ∧ a + 4 < s.size) ∨ (((k : Int) == 5) = false ∧ ((k : Int) == 10) = false))) ∨ (bits = 64 ∧ (k = 5 ∨ (k = 10 ∧ decide (1 < ae.bt s (a + 9)) = false ∧ a + 9 < s.size) ∨ (((k : Int) == 5) = false ∧ ((k : Int) == 10) = false))) := by
        simp only [decide_eq_false_iff_not, beq_eq_false_iff_ne];omega
      clear lN hk0;rcases BV with ⟨rfl, ⟨rfl, h1, h2⟩ | ⟨h1, h2⟩⟩ | ⟨rfl, rfl | ⟨rfl, h1, h2⟩ | ⟨h1, h2⟩⟩
      all_goals
        go_enter Tryz.func55, Tryz.ntmps55;go_wp2_with fail;refine (qY _ _ _ _).mono ?_;rintro e w' ⟨rfl, rfl⟩;rw [xk.out];go_wp2_with fail;refine (bI hC).mono ?_;rintro e w' ⟨rfl, rfl⟩;go_wp2
        go_loop [10, 11] (fun x i => ∃ (j : Nat) (N : Int), a + j ≤ s.size ∧ j ≤ 10 ∧ i = .int .i64 ((j : Int) - 1) ∧ x = .int .u64 (ae.bO N) ∧ ae.val (ae.from_ s a) j + 128 ^ j * N = V) (fun _ i => (RowKit.intOf i + 1).toNat)
        case atStart =>
          refine ⟨_, 0, ?_, ?_, ?_, rfl, start_eq (bI HV)⟩
          · omega
          · omega
          · go_num
        case round =>
          obtain ⟨j, N, KC, hj2, rfl, rfl, hN⟩ := hrel;have HN := fV hN;clear hN;by_cases hj : j = 0
          · subst hj
            have pU := (bI HN);simp only [ae.val, Int.pow_zero, Int.one_mul, Int.zero_add] at pU;subst pU;clear HN;go_wp2;go_ret3;exact ⟨yx (by rw [ae.uH hv0 hv]), rfl⟩
          · obtain ⟨j, rfl⟩ : ∃ j', j = j' + 1 := ⟨j - 1, by omega⟩
            have hbd := ae.lQ s (a + j);have hmk := ae.BN _ hbd.1 hbd.2;have hlow := ae.Bt N;go_wp2
            go_round
            case rel => exact ⟨j, N * 128 + ae.bt s (a + j) % 128, by omega, by omega, rfl, by rw [T9], (ae.Dh (ae.from_ s a) j N).symm.trans (bI HN)⟩
            case measure => simp [RowKit.intOf]
  · have rH : ae.asks s.size a bits = false := by simpa using di
    have hread : ae.fF s a bits = (0, 0, 1) := by unfold ae.fF; rw [rH]; rfl
    rw [hread];clear hread di;go_enter Tryz.func55, Tryz.ntmps55;go_wp2_with fail;refine (qY _ _ _ _).mono ?_;rintro e w' ⟨rfl, rfl⟩;go_wp2;go_ret3;exact ⟨rfl, rfl⟩
end Go.Proofs.YtegboefdolfdgaaGreatDoor
