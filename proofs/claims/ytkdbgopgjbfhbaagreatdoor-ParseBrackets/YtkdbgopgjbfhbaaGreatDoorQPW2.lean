/- Texts that the claim needs. -/
import Derived.Test.YtkdbgopgjbfhbaaGreatDoorQPW1
import Derived.Laws.AppendOwn
import Derived.OwnWalk
import Derived.Test.YtkdbgopgjbfhbaaGreatDoorRows
import Derived.WalkKit
import Derived.WalkSpells
import Derived.WalkSmall
import Derived.BigQuiet
import Derived.Deep.QuietTactic
import Derived.Deep.RegionWith
import Derived.Laws.AppendOwnNone
import Derived.Orders
namespace Go.Proofs.YtkdbgopgjbfhbaaGreatDoor
open Go.RowKit Lx
set_option linter.unusedVariables false
namespace Lx
def gM (a:Int):Except Int (Int × ByteArray × Int × Nat)->Value
 | .ok (k,x,n,e)=>.tuple #[.agg #[.int .i64 k,.string x,.int .i64 n,.int .i64 a],.int .i64 e,.int .i64 0]
 | .error z=>.tuple #[.agg #[.int .i64 0,.string ⟨#[]⟩,.int .i64 0,.int .i64 0],.int .i64 0,.int .i64 z]
theorem PD {c:Int} (h:sm c=true):cp c=false:=by
 unfold sm at h;unfold cp;rw [Bool.and_eq_true,decide_eq_true_eq,decide_eq_true_eq] at h;rw [decide_eq_false (by omega:¬ c<=90),Bool.and_false]
structure Tb (b:Nat) (a0 a1 a2 a3:Value) (u:World):Prop where
 blk:u.heap[b]?=some (.cells #[a0,a1,a2,a3] 47 (0,0))
section
variable {b:Nat} {a0 a1 a2 a3:Value} {u u' w:World}
theorem Tb.cell (h:Tb b a0 a1 a2 a3 u) (j:Nat) (v:Value) (hv:#[a0,a1,a2,a3][j]?=some v):u.cell? ⟨b,j,none⟩=some v:=by
 unfold World.cell?;rw [h.blk];exact hv
theorem Tb.jb (h:Tb b a0 a1 a2 a3 u) (j:Nat):u.frozen? ⟨b,j,none⟩=false:=by unfold World.frozen?;rw [h.blk];simp
theorem Tb.on (h:Tb b a0 a1 a2 a3 u) (hb:Below u.heap.size u u'):Tb b a0 a1 a2 a3 u' :=
 ⟨by rw [hb.block _ (Array.getElem?_eq_some_iff.1 h.blk).1];exact h.blk⟩
theorem Tb.range (h:Tb b a0 a1 a2 a3 u):u.rangeAt b 0 [a0,a1,a2,a3]:=fun j v hv=>by
 rw [Nat.zero_add];exact h.cell j v (by rw [<- hv];simp)
theorem Tb.new (w:World) (hb:b=w.heap.size):Tb b a0 a1 a2 a3 (w.alloc (.cells #[a0,a1,a2,a3] 47)):=⟨by subst hb;exact heap_alloc_new w _⟩
theorem An.set (h:An w u) (hb:w.heap.size<b) (j:Nat) (v:Value):An w (u.setCell ⟨b,j,none⟩ v) :=
 ⟨by rw [Below.heap_setCell _ _ _ _ (by show w.heap.size≠b;omega)];exact h.blk,h.eG.setCell (show w.heap.size<=b by omega) _⟩
theorem An.new (h:An w u) (o:Obj):An w (u.alloc o):=h.on ((Below.refl _ u).alloc (Nat.le_refl _) _)
end
end Lx
namespace Lx
def wG (t:Tk):List Value:=[.int .i64 t.k,.string t.x,.int .i64 t.n,.int .i64 t.a]
def flat:List Tk->List Value
 | []=>[]
 | t :: l=>wG t++flat l
theorem OW:∀(l m:List Tk),flat (l++m)=flat l++flat m
 | [],m=>rfl
 | t :: l,m=>by rw [List.cons_append,flat,flat,OW l m,List.append_assoc]
theorem OX:∀(l:List Tk) (i:Nat) (t:Tk),l[i]?=some t->∀j,j<4->(flat l)[i*4+j]?=(wG t)[j]?
 | [],i,t,h,_,_=>by simp at h
 | x :: l,0,t,h,j,hj=>by
  simp at h;subst h;rw [flat,Nat.zero_mul,Nat.zero_add,List.getElem?_append_left (show j<(wG x).length from hj)]
 | x :: l,i+1,t,h,j,hj=>by
  have h':l[i]?=some t:=by simpa using h
  rw [flat,List.getElem?_append_right (show (wG x).length<=(i+1)*4+j by show 4<=_;omega),show (i+1)*4+j-(wG x).length=i*4+j by show (i+1)*4+j-4=_;omega];exact OX l i t h' j hj
def nH (w:World) (v:Value) (l:List Tk):Prop :=
 (v=.slice none 0 0/\l = [])\/∃g c,v=.slice (some ⟨g,0,none⟩) l.length c/\∀i t,l[i]?=some t->∀j u,(wG t)[j]?=some u->w.cell? ⟨g,i*4+j,none⟩=some u
theorem nH.nil (w:World):nH w (.slice none 0 0) []:=.inl ⟨rfl,rfl⟩
theorem nH.on {w w':World} {v:Value} {l:List Tk} (h:nH w v l) (hb:Below w.heap.size w w'):nH w' v l:=by
 rcases h with h|⟨g,c,h1,h2⟩
 ·exact .inl h
 ·refine .inr ⟨g,c,h1,fun i t hi j u hj=>?_⟩;have hc:=h2 i t hi j u hj
  have hlt:g<w.heap.size:=by
   unfold World.cell? at hc;rcases Nat.lt_or_ge g w.heap.size with hl|hl
   ·exact hl
   ·rw [Array.getElem?_eq_none hl] at hc;cases hc
  unfold World.cell? at hc ⊢;rw [hb.block g hlt];exact hc
theorem Fj {w:World} {B:Nat} {e:TypeId} {v:Value} {l:List Tk} (h:w.ownsRow B e 4 v l.length (flat l)):nH w v l:=by
 rcases h.2 with ⟨h1,h2⟩|⟨g,cap,cur,rfl,_,hg,_,_,hs,ht⟩
 ·exact .inl ⟨h1,List.eq_nil_of_length_eq_zero h2⟩
 ·refine .inr ⟨g,cap,rfl,fun i t hi j u hj=>?_⟩;have h4:j<4:=(List.getElem?_eq_some_iff.1 hj).1;have hf:=(OX l i t hi j h4).trans hj;have hc:=h.cells (g:=g) rfl _ _ hf;rw [Addr.add_mid,Nat.zero_add] at hc;exact hc
theorem OY {w w':World} {B:Nat} {e:TypeId} {n:Nat} {v:Value} {xs:List Value} (h:w.ownsRow B e 4 v n xs) (hb:Below w.heap.size w w'):w'.ownsRow B e 4 v n xs:=by
 refine ⟨h.1,?_⟩;rcases h.2 with h2|⟨g,cap,cur,h1,h2,hg,h3⟩
 ·exact .inl h2
 ·exact .inr ⟨g,cap,cur,h1,h2,by rw [hb.block g (Array.getElem?_eq_some_iff.1 hg).1];exact hg,h3⟩
theorem XA:(Tryz.prog.info? 47).map (fun i=>(i.zero,i.size,i.bytes))=some (some (.agg #[.int .i64 0,.string ⟨#[]⟩,.int .i64 0,.int .i64 0]),4,40):=by kernel_rfl
theorem XB {s:ByteArray} {i:Nat} {z:Int} (h:one s i=.error z):z=2\/z=110:=by
 unfold one at h
 repeat' split at h
 all_goals first|(injection h with h;omega)|cases h
theorem XC (w:World) (a0 a1 a2 a3:Value) (t:TypeId):∀j u,[a0,a1,a2,a3][j]?=some u->(w.alloc (.cells #[a0,a1,a2,a3] t)).cell? ((⟨w.heap.size,0,none⟩:Addr).add j)=some u:=fun j u h=>by
 rw [Addr.add_mid,Nat.zero_add,World.cell?_alloc_at _ t _ _ rfl];simpa using h
theorem XD (w:World) (g:Nat) (hg:g=w.heap.size) (a0 a1 a2 a3:Value) (t:TypeId):∀j u,[a0,a1,a2,a3][j]?=some u->(w.alloc (.cells #[a0,a1,a2,a3] t)).cell? ((⟨g,0,none⟩:Addr).add j)=some u:=by
 subst hg;exact XC w a0 a1 a2 a3 t
theorem XE (k:Int) (x:ByteArray) (n i:Int):∀u ∈ [Value.int .i64 k,.string x,.int .i64 n,.int .i64 i],u.oneCell'=true:=by simp [Value.oneCell']
theorem XF {w:World} {B:Nat} {e:TypeId} {v:Value} {acc:List Tk} {k:Int} {x:ByteArray} {n i:Int} (h:w.ownsRow B e 4 v (acc.length+1) (flat acc++[.int .i64 k,.string x,.int .i64 n,.int .i64 i])):w.ownsRow B e 4 v (acc++[Tk.mk k x n i]).length (flat (acc++[Tk.mk k x n i])):=by
 rw [OW,List.length_append];exact h
theorem XG {w u w':World} {v:Value} {e:TypeId} {m:Nat} {xs:List Value} (hb:Below w.heap.size w u) (ho:u.ownsRow w.heap.size e 4 v m xs) (o1 o2:Obj) (hg:((u.alloc o1).alloc o2).grownBy w' v.ownBlock):Below w.heap.size w w':=by
 have h1:Below w.heap.size w (u.alloc o1):=hb.alloc hb.size _;have h2:Below w.heap.size w ((u.alloc o1).alloc o2):=h1.alloc h1.size _;exact h2.grown hg h2.size fun k hk=>(ho.lt k hk).1
theorem aP (n:Nat) (h:n+1<=4096):n+1<=maxLen/\(n+1)*40<=140737488355328:=by unfold maxLen;omega
theorem aQ {w u:World} (h:Below w.heap.size w u) (o1 o2:Obj):w.heap.size<=((u.alloc o1).alloc o2).heap.size:=by have:=h.size;simp;omega
theorem aJ (n k:Nat) (h:k<n) (hn:n<=8192):decide ((k:Int)<(n:Int))=true:=decide_eq_true (by omega)
theorem aK (n k:Nat) (h:¬ k<n):decide ((k:Int)<(n:Int))=false:=decide_eq_false (by omega)
theorem aL {n:Nat} (h:n=4096):((n:Int) == 4096)=true:=beq_iff_eq.2 (by omega)
theorem aM {n:Nat} (h:¬ n=4096):((n:Int) == 4096)=false:=beq_eq_false_iff_ne.2 (by omega)
theorem aN {z:Int} (h:z=2\/z=110):(z == 0)=false/\(z != 0)=true:=by rcases h with rfl|rfl<;>exact ⟨rfl,rfl⟩
end Lx
end Go.Proofs.YtkdbgopgjbfhbaaGreatDoor
namespace Go.Proofs.YtkdbgopgjbfhbaaGreatDoor
open Go.RowKit
namespace bq
def Row {α:Type} (size:Nat) (f:Nat->Nat->α->Prop) (v:Value) (l:List α):Prop :=
 l.length<=9223372036854775807/\((l = []/\∃o cap,v=.slice o 0 cap)\/∃b off cap,v=.slice (some ⟨b,off,none⟩) l.length cap/\∀(i:Nat) (x:α),l[i]?=some x->f b (off+i*size) x)
theorem Row.len {α:Type} {size:Nat} {f:Nat->Nat->α->Prop} {v:Value} {l:List α} (h:Row size f v l):∃o cap,v=.slice o l.length cap:=by
 rcases h with ⟨_,⟨rfl,o,cap,rfl⟩|⟨b,off,cap,rfl,_⟩⟩
 ·exact ⟨o,cap,rfl⟩
 ·exact ⟨_,cap,rfl⟩
theorem Row.some {α:Type} {size:Nat} {f:Nat->Nat->α->Prop} {v:Value} {l:List α} (h:Row size f v l) (h0:0<l.length):∃b off cap,v=.slice (some ⟨b,off,none⟩) l.length cap/\∀(i:Nat) (x:α),l[i]?=some x->f b (off+i*size) x:=by
 rcases h with ⟨_,⟨rfl,_⟩|h⟩
 ·exact absurd h0 (by simp)
 ·exact h
theorem Row.imp {α:Type} {size:Nat} {f g:Nat->Nat->α->Prop} {v:Value} {l:List α} (h:Row size f v l) (hfg:∀b o x,x ∈ l->f b o x->g b o x):Row size g v l:=by
 rcases h with ⟨hl,h|⟨b,off,cap,hv,hc⟩⟩
 ·exact ⟨hl,.inl h⟩
 ·exact ⟨hl,.inr ⟨b,off,cap,hv,fun i x hi=>hfg _ _ _ (List.mem_of_getElem? hi) (hc i x hi)⟩⟩
def Ints (w:World) (v:Value) (l:List Int):Prop:=Row 1 (fun b o (z:Int)=>w.cell? ⟨b,o,none⟩=.some (.int .i64 z)) v l
theorem ai {w w':World} (hb:Below w.heap.size w w') {b o:Nat} {u:Value} (h:w.cell? ⟨b,o,none⟩=.some u):w'.cell? ⟨b,o,none⟩=.some u:=by
 rw [hb.cell (World.block_lt_of_cell? _ _ h)];exact h
theorem Ints.on {w w':World} (hb:Below w.heap.size w w') {v:Value} {l:List Int} (h:Ints w v l):Ints w' v l:=Row.imp h fun _ _ _ _ h=>ai hb h
structure Ins (α:Type) where
 op:Int
 a:Int
 b:Int
 n:Int
 labels:List Int
 body:α
 els:α
def IL:Nat->Type
 | 0=>Unit
 | d+1=>List (Ins (IL d))
structure tK {α:Type} (w:World) (sub:Value->α->Prop) (bk o:Nat) (x:Ins α):Prop where
 op:w.cell? ⟨bk,o,none⟩=.some (.int .i64 x.op)
 a:w.cell? ⟨bk,o+1,none⟩=.some (.int .i64 x.a)
 b:w.cell? ⟨bk,o+2,none⟩=.some (.int .i64 x.b)
 n:w.cell? ⟨bk,o+3,none⟩=.some (.int .i64 x.n)
 labels:∃v,w.cell? ⟨bk,o+4,none⟩=.some v/\Ints w v x.labels
 body:∃v,w.cell? ⟨bk,o+5,none⟩=.some v/\sub v x.body
 els:∃v,w.cell? ⟨bk,o+6,none⟩=.some v/\sub v x.els
def At (w:World):(d:Nat)->Value->IL d->Prop
 | 0,v,_=>∃o cap,v=.slice o 0 cap
 | d+1,v,l=>Row 7 (tK w (At w d)) v l
theorem tK.on {α : Type} {w w' : World} (hb : Below w.heap.size w w') {f g : Value → α → Prop} (hfg : ∀ v x, f v x → g v x) {b o : Nat} {x : Ins α} (h : tK w f b o x) : tK w' g b o x :=
  ⟨ai hb h.op, ai hb h.a, ai hb h.b, ai hb h.n,
   let ⟨v, h1, h2⟩ := h.labels; ⟨v, ai hb h1, h2.on hb⟩,
   let ⟨v, h1, h2⟩ := h.body; ⟨v, ai hb h1, hfg _ _ h2⟩,
   let ⟨v, h1, h2⟩ := h.els; ⟨v, ai hb h1, hfg _ _ h2⟩⟩
theorem At.on {w w':World} (hb:Below w.heap.size w w'):∀(d:Nat) (v:Value) (l:IL d),At w d v l->At w' d v l
 | 0,_,_,h=>h
 | d+1,_,_,h=>Row.imp (α:=Ins (IL d)) h fun _ _ _ _ h=>h.on hb (At.on hb d)
theorem GF (w:World) (n:Nat):Below w.heap.size w (w.drewN n):=⟨rfl,rfl,rfl,Nat.le_refl _,fun _ _=>rfl⟩
def ed {α:Type} (f:α->Nat->Nat):List (Ins α)->Nat->Nat
 | [],c=>c
 | x :: r,c=>if c<=65536 then ed f r (f x.els (f x.body (c+1))) else c
theorem Bb {α:Type} {f:α->Nat->Nat} (hf:∀x c,f x c<=max c 65537):∀(l:List (Ins α)) (c:Nat),ed f l c<=max c 65537
 | [],c=>by unfold ed;omega
 | x :: r,c=>by
  unfold ed;split
  ·have h1:=hf x.body (c+1);have h2:=hf x.els (f x.body (c+1));have h3:=Bb hf r (f x.els (f x.body (c+1)));omega
  ·omega
end bq
end Go.Proofs.YtkdbgopgjbfhbaaGreatDoor
namespace Go.Proofs.YtkdbgopgjbfhbaaGreatDoor
open Go.RowKit bq
set_option linter.unusedVariables false
namespace bq
structure FT where
 params:List Int
 results:List Int
structure Fb where
 mod:ByteArray
 name:ByteArray
 type:Int
structure Fc (d:Nat) where
 type:Int
 locals:List Int
 body:IL d
structure CL where
 min:Int
 max:Int
 has:Bool
structure Fe (d:Nat) where
 type:Int
 Ff:Bool
 init:Ins (IL d)
structure Fg where
 name:ByteArray
 kind:Int
 index:Int
structure Fh (d:Nat) where
 offset:Ins (IL d)
 funcs:List Int
structure Dat (d:Nat) where
 offset:Ins (IL d)
 bytes:ByteArray
structure Mod (d:Nat) where
 types:List FT
 imports:List Fb
 funcs:List (Fc d)
 tables:List CL
 Ja:List CL
 globals:List (Fe d)
 exports:List Fg
 start:List Int
 elems:List (Fh d)
 Jb:List (Dat d)
structure wy (w:World) (bk o:Nat) (x:FT):Prop where
 params:∃v,w.cell? ⟨bk,o,none⟩=.some v/\Ints w v x.params
 results:∃v,w.cell? ⟨bk,o+1,none⟩=.some v/\Ints w v x.results
structure wz (w:World) (bk o:Nat) (x:Fb):Prop where
 mod:w.cell? ⟨bk,o,none⟩=.some (.string x.mod)
 name:w.cell? ⟨bk,o+1,none⟩=.some (.string x.name)
 type:w.cell? ⟨bk,o+2,none⟩=.some (.int .i64 x.type)
structure wB (w:World) (d:Nat) (bk o:Nat) (x:Fc d):Prop where
 type:w.cell? ⟨bk,o,none⟩=.some (.int .i64 x.type)
 locals:∃v,w.cell? ⟨bk,o+1,none⟩=.some v/\Ints w v x.locals
 body:∃v,w.cell? ⟨bk,o+2,none⟩=.some v/\At w d v x.body
structure tJ (w:World) (bk o:Nat) (x:CL):Prop where
 min:w.cell? ⟨bk,o,none⟩=.some (.int .i64 x.min)
 max:w.cell? ⟨bk,o+1,none⟩=.some (.int .i64 x.max)
 has:w.cell? ⟨bk,o+2,none⟩=.some (.bool x.has)
structure wC (w:World) (d:Nat) (bk o:Nat) (x:Fe d):Prop where
 type:w.cell? ⟨bk,o,none⟩=.some (.int .i64 x.type)
 Ff:w.cell? ⟨bk,o+1,none⟩=.some (.bool x.Ff)
 init:tK w (At w d) bk (o+2) x.init
structure wD (w:World) (bk o:Nat) (x:Fg):Prop where
 name:w.cell? ⟨bk,o,none⟩=.some (.string x.name)
 kind:w.cell? ⟨bk,o+1,none⟩=.some (.int .i64 x.kind)
 index:w.cell? ⟨bk,o+2,none⟩=.some (.int .i64 x.index)
structure wE (w:World) (d:Nat) (bk o:Nat) (x:Fh d):Prop where
 offset:tK w (At w d) bk o x.offset
 funcs:∃v,w.cell? ⟨bk,o+7,none⟩=.some v/\Ints w v x.funcs
structure wF (w:World) (d:Nat) (bk o:Nat) (x:Dat d):Prop where
 offset:tK w (At w d) bk o x.offset
 bytes:w.cell? ⟨bk,o+7,none⟩=.some (.string x.bytes)
structure Jc (w:World) (d:Nat) (v0 v1 v2 v3 v4 v5 v6 v7 v8 v9:Value) (m:Mod d):Prop where
 types:Row 2 (wy w) v0 m.types
 imports:Row 3 (wz w) v1 m.imports
 funcs:Row 3 (wB w d) v2 m.funcs
 tables:Row 3 (tJ w) v3 m.tables
 Ja:Row 3 (tJ w) v4 m.Ja
 globals:Row 9 (wC w d) v5 m.globals
 exports:Row 3 (wD w) v6 m.exports
 start:Ints w v7 m.start
 elems:Row 8 (wE w d) v8 m.elems
 Jb:Row 8 (wF w d) v9 m.Jb
section On
variable {w w':World} (hb:Below w.heap.size w w')
theorem wy.on (hb:Below w.heap.size w w') {bk o:Nat} {x:FT} (h:wy w bk o x):wy w' bk o x :=
 ⟨let ⟨v,a,b⟩:=h.params;⟨v,ai hb a,b.on hb⟩,let ⟨v,a,b⟩:=h.results;⟨v,ai hb a,b.on hb⟩⟩
theorem wz.on (hb:Below w.heap.size w w') {bk o:Nat} {x:Fb} (h:wz w bk o x):wz w' bk o x:=⟨ai hb h.mod,ai hb h.name,ai hb h.type⟩
theorem wB.on (hb:Below w.heap.size w w') {d bk o:Nat} {x:Fc d} (h:wB w d bk o x):wB w' d bk o x :=
 ⟨ai hb h.type,let ⟨v,a,b⟩:=h.locals;⟨v,ai hb a,b.on hb⟩,let ⟨v,a,b⟩:=h.body;⟨v,ai hb a,At.on hb d v _ b⟩⟩
theorem tJ.on (hb:Below w.heap.size w w') {bk o:Nat} {x:CL} (h:tJ w bk o x):tJ w' bk o x:=⟨ai hb h.min,ai hb h.max,ai hb h.has⟩
theorem wC.on (hb:Below w.heap.size w w') {d bk o:Nat} {x:Fe d} (h:wC w d bk o x):wC w' d bk o x:=⟨ai hb h.type,ai hb h.Ff,h.init.on hb (At.on hb d)⟩
theorem wD.on (hb:Below w.heap.size w w') {bk o:Nat} {x:Fg} (h:wD w bk o x):wD w' bk o x:=⟨ai hb h.name,ai hb h.kind,ai hb h.index⟩
theorem wE.on (hb:Below w.heap.size w w') {d bk o:Nat} {x:Fh d} (h:wE w d bk o x):wE w' d bk o x:=⟨h.offset.on hb (At.on hb d),let ⟨v,a,b⟩:=h.funcs;⟨v,ai hb a,b.on hb⟩⟩
theorem wF.on (hb:Below w.heap.size w w') {d bk o:Nat} {x:Dat d} (h:wF w d bk o x):wF w' d bk o x:=⟨h.offset.on hb (At.on hb d),ai hb h.bytes⟩
theorem Jc.on (hb : Below w.heap.size w w') {d : Nat} {v0 v1 v2 v3 v4 v5 v6 v7 v8 v9 : Value} {m : Mod d} (h : Jc w d v0 v1 v2 v3 v4 v5 v6 v7 v8 v9 m) : Jc w' d v0 v1 v2 v3 v4 v5 v6 v7 v8 v9 m :=
  ⟨h.types.imp fun _ _ _ _ => wy.on hb, h.imports.imp fun _ _ _ _ => wz.on hb, h.funcs.imp fun _ _ _ _ => wB.on hb, h.tables.imp fun _ _ _ _ => tJ.on hb, h.Ja.imp fun _ _ _ _ => tJ.on hb,
   h.globals.imp fun _ _ _ _ => wC.on hb, h.exports.imp fun _ _ _ _ => wD.on hb, h.start.on hb, h.elems.imp fun _ _ _ _ => wE.on hb, h.Jb.imp fun _ _ _ _ => wF.on hb⟩
end On
def size:(d:Nat)->IL d->Nat
 | 0,_=>0
 | _+1,l=>List.length l
theorem At.len {w:World}:∀(d:Nat) (v:Value) (l:IL d),At w d v l->∃o cap,v=.slice o (size d l) cap
 | 0,_,_,h=>h
 | _+1,_,_,h=>Row.len h
end bq
set_option linter.unusedVariables false
theorem dF (w:World) (o:Obj):Below w.heap.size w (w.alloc o):=(Below.refl _ w).alloc (Nat.le_refl _) o
theorem iF (w:World):Below w.heap.size w w.drew:=(Below.refl _ w).drew
section App
variable {P:Program}
theorem abb (w:World) (base:Nat) (t ty e:TypeId) (i:TypeInfo) (z:Value) (size bytes:Nat) (ht:P.underlying t=some (.slice e)) (hi:P.info? e=some i) (hz:i.zero=some z)
  (hsize:i.size=size) (hby:i.bytes=bytes) (hzs:z.cells.size=size) (hsz:0<size)
  (v:Value) (n:Nat) (xs:List Value) (hown:w.ownsRow base e size v n xs)
  (a:Addr) (m c:Nat) (news:List Value) (hl:news.length=m*size) (hnews:∀j u,news[j]?=some u->w.cell? (a.add j)=some u) (h1:∀u ∈ news,u.oneCell'=true)
  (h63:n+m<=maxLen) (hbytes:(n+m)*bytes<=140737488355328) (hbase:base<=w.heap.size) :
  ∃v' w',(Builtin.append_ #[t,t] ty #[v,.slice (some a) m c]).run P w=.ok v' w'/\w'.ownsRow base e size v' (n+m) (xs++news)/\w.grownBy w' v.ownBlock /\
   (v'.ownBlock=v.ownBlock\/v'.ownBlock=some w.heap.size):=by
 obtain ⟨v',w',hr,h2,h3,h4⟩:=run_append_own (P:=P) w base t ty e i z size bytes ht hi hz hsize hby hzs hsz v n xs hown a m c news hl hnews h1 h63 hbytes hbase;refine ⟨v',w',hr,h2,h3,?_⟩;subst hsize;subst hby;unfold maxLen at h63;rcases hown.2 with ⟨rfl,rfl⟩|⟨g,cap,cur,rfl,hbg,hg,hnc,hcm,hcs,htake⟩
 ·by_cases hm:m=0
  ·left;rw [h4.2 ⟨rfl,hm⟩]
  ·rw [run_append_nil (P:=P) w t ty e i z ht hi hz a m c news hl hnews (by omega) (by omega) (by simp only [Nat.zero_add] at hbytes;omega)] at hr;injection hr with hv _;right;rw [<- hv];rfl
 ·by_cases hroom:n+m<=cap
  ·have hfit:n*i.size+news.length<=cur.size:=by rw [hl,hcs,<- Nat.add_mul];exact Nat.mul_le_mul_right _ hroom
   rw [run_append_room (P:=P) w t ty e i ht hi g n cap cur hg a m c news hl hnews h1 hroom hfit] at hr;injection hr with hv _;left;rw [<- hv];rfl
  ·have holds:∀j u,xs[j]?=some u->w.cell? ((⟨g,0,none⟩:Addr).add j)=some u:=hown.cells (g:=g) rfl;rw [run_append_grow (P:=P) w t ty e i z ht hi hz ⟨g,0,none⟩ n cap xs hown.1 holds a m c news hl hnews (by omega) (by omega) (growslice_fits (by omega) hbytes)] at hr;injection hr with hv _;right;rw [<- hv];rfl
theorem abd (w:World) (base:Nat) (t ty e:TypeId) (i:TypeInfo) (size:Nat) (ht:P.underlying t=some (.slice e)) (hi:P.info? e=some i) (v:Value) (n:Nat) (xs:List Value) (hown:w.ownsRow base e size v n xs) (c:Nat) :
  (Builtin.append_ #[t,t] ty #[v,.slice none 0 c]).run P w=.ok v w:=by
 rcases hown.2 with ⟨rfl,rfl⟩|⟨g,cap,cur,rfl,_,_,hnc,_⟩
 ·simp [Builtin.append_,run_underlying ht,sizeOf,typeInfo,hi,Builtin.lenOf,Builtin.firstCells]
 ·simp [Builtin.append_,run_underlying ht,sizeOf,typeInfo,hi,Builtin.lenOf,Builtin.firstCells,hnc,storeCells]
theorem RH (w:World) (base:Nat) (t ty e:TypeId) (i:TypeInfo) (z:Value) (size bytes:Nat) (ht:P.underlying t=some (.slice e)) (hi:P.info? e=some i) (hz:i.zero=some z)
  (hsize:i.size=size) (hby:i.bytes=bytes) (hzs:z.cells.size=size) (hsz:0<size)
  (v:Value) (n:Nat) (xs:List Value) (hown:w.ownsRow base e size v n xs)
  (xo:Option Addr) (m c:Nat) (news:List Value) (D7:xo=none->m=0) (hl:news.length=m*size) (hnews:∀ad,xo=some ad->∀j u,news[j]?=some u->w.cell? (ad.add j)=some u) (h1:∀u ∈ news,u.oneCell'=true)
  (h63:n+m<=maxLen) (hbytes:(n+m)*bytes<=140737488355328) (hbase:base<=w.heap.size) :
  ∃v' w',(Builtin.append_ #[t,t] ty #[v,.slice xo m c]).run P w=.ok v' w'/\w'.ownsRow base e size v' (n+m) (xs++news)/\w.grownBy w' v.ownBlock /\
   (v'.ownBlock=v.ownBlock\/v'.ownBlock=some w.heap.size):=by
 cases xo with
 | none =>
  obtain rfl:=D7 rfl;obtain rfl:news = []:=List.eq_nil_of_length_eq_zero (by simpa using hl);refine ⟨v,w,abd w base t ty e i size ht hi v n xs hown c,by simpa using hown,⟨rfl,rfl,rfl,Nat.le_refl _,fun _ _ _=>rfl⟩,.inl rfl⟩
 | some a=>exact abb w base t ty e i z size bytes ht hi hz hsize hby hzs hsz v n xs hown a m c news hl (hnews a rfl) h1 h63 hbytes hbase
theorem KO {w:World} {ops:Array Oper} {rest:List Oper} {o:Oper} {a:Act} {Q:Exit->Act->World->Prop} (hgd:o.guard=none) (s x:Operand) (t:TypeId)
  (ho:o.op=.call { callee:=.builtin .append,args:=#[s,x],argTypes:=#[t,t] })
  (base:Nat) (e:TypeId) (i:TypeInfo) (z:Value) (size bytes:Nat) (ht:P.underlying t=some (.slice e)) (hi:P.info? e=some i) (hz:i.zero=some z)
  (hsize:i.size=size) (hby:i.bytes=bytes) (hzs:z.cells.size=size) (hsz:0<size)
  (v:Value) (n:Nat) (xs:List Value) (hs:a.eval s=v) (hown:w.ownsRow base e size v n xs)
  (xo:Option Addr) (m c:Nat) (news:List Value) (hx:a.eval x=.slice xo m c) (D7:xo=none->m=0) (hl:news.length=m*size) (hnews:∀ad,xo=some ad->∀j u,news[j]?=some u->w.cell? (ad.add j)=some u) (h1:∀u ∈ news,u.oneCell'=true)
  (h63:n+m<=maxLen) (hbytes:(n+m)*bytes<=140737488355328) (hbase:base<=w.heap.size)
  (h:∀v' w',w'.ownsRow base e size v' (n+m) (xs++news)->w.grownBy w' v.ownBlock->(v'.ownBlock=v.ownBlock\/v'.ownBlock=some w.heap.size)->wpList P ops Q rest (a.put o.dst v') w'):wpList P ops Q (o :: rest) a w:=by
 refine wpList_plain hgd fun K hK=>?_;obtain ⟨v',w',hr,h2,h3,h4⟩:=RH w base t o.type e i z size bytes ht hi hz hsize hby hzs hsz v n xs hown xo m c news D7 hl hnews h1 h63 hbytes hbase;unfold Oper.wp;simp [execOp,ho,resolve,invoke,builtin,hs,hx,hr,Result.andThen];exact hK _ _ (h v' w' h2 h3 h4)
end App
namespace bq
def KP (w:World) (S:Nat->Prop) (v:Value) (l:List Int):Prop:=Row 1 (fun b o (z:Int)=>S b/\w.cell? ⟨b,o,none⟩=.some (.int .i64 z)) v l
structure abe {α:Type} (w:World) (S:Nat->Prop) (sub:Value->α->Prop) (bk o:Nat) (x:Ins α):Prop where
 op:w.cell? ⟨bk,o,none⟩=.some (.int .i64 x.op)
 a:w.cell? ⟨bk,o+1,none⟩=.some (.int .i64 x.a)
 b:w.cell? ⟨bk,o+2,none⟩=.some (.int .i64 x.b)
 n:w.cell? ⟨bk,o+3,none⟩=.some (.int .i64 x.n)
 labels:∃v,w.cell? ⟨bk,o+4,none⟩=.some v/\KP w S v x.labels
 body:∃v,w.cell? ⟨bk,o+5,none⟩=.some v/\sub v x.body
 els:∃v,w.cell? ⟨bk,o+6,none⟩=.some v/\sub v x.els
def D8 (w:World) (S:Nat->Prop):(d:Nat)->Value->IL d->Prop
 | 0,v,_=>∃o cap,v=.slice o 0 cap
 | d+1,v,l=>Row 7 (fun b o (x:Ins (IL d))=>S b/\abe w S (D8 w S d) b o x) v l
theorem KP.at {w:World} {S:Nat->Prop} {v:Value} {l:List Int} (h:KP w S v l):Ints w v l:=Row.imp h fun _ _ _ _ h=>h.2
theorem D8.at {w:World} {S:Nat->Prop}:∀(d:Nat) (v:Value) (l:IL d),D8 w S d v l->At w d v l
 | 0,_,_,h=>h
 | d+1,_,_,h=>Row.imp (α:=Ins (IL d)) h fun _ _ _ _ ⟨_,h⟩=>⟨h.op,h.a,h.b,h.n,let ⟨v,a,b⟩:=h.labels;⟨v,a,b.at⟩,let ⟨v,a,b⟩:=h.body;⟨v,a,D8.at d v _ b⟩,let ⟨v,a,b⟩:=h.els;⟨v,a,D8.at d v _ b⟩⟩
end bq
theorem count_set {l:Array Bool} {i:Nat} (h:l.getD i true=false):(l.setIfInBounds i true).toList.count false+1=l.toList.count false:=by
 have hi:i<l.size:=by
  rcases Nat.lt_or_ge i l.size with h'|h'
  ·exact h'
  ·simp [Array.getD,Nat.not_lt.2 h'] at h
 have he:l[i]=false:=by simpa [Array.getD,hi] using h
 have hl:l.toList=l.toList.take i++false :: l.toList.drop (i+1):=by
  rw [<- he]
  have:i<l.toList.length:=by simpa using hi
  conv=>lhs;rw [<- List.take_append_drop i l.toList,List.drop_eq_getElem_cons this]
  simp
 have hs:(l.setIfInBounds i true).toList=l.toList.take i++true :: l.toList.drop (i+1):=by
  rw [Array.toList_setIfInBounds,List.set_eq_take_append_cons_drop,if_pos (by simpa using hi)]
 have e1:=congrArg (List.count false) hl;have e2:=congrArg (List.count false) hs;rw [List.count_append,List.count_cons_self] at e1;rw [List.count_append,List.count_cons_of_ne (by simp)] at e2;omega
theorem abn {P:Program} {md:Region.Mode} {ops:Array Oper} {Q:Exit->Act->World->Prop} (Inv:Array Bool->Act->World->Prop)
  (hstep:∀listed i a w,i ∈ Region.ready md ops listed->Inv listed a w->wpOp P ops Q i (Inv (listed.setIfInBounds i true)) a w)
  (hdone:∀listed a w,Region.ready md ops listed = []->Inv listed a w->Q .normal a w) :
  ∀(fuel:Nat) (listed:Array Bool) (a:Act) (w:World),listed.toList.count false<=fuel->Inv listed a w->wpAny P md ops Q fuel listed a w:=by
 intro fuel
 induction fuel with
 | zero =>
  intro listed a w hc hI
  have hr:Region.ready md ops listed = []:=by
   cases hrr:Region.ready md ops listed with
   | nil=>rfl
   | cons i r =>
    have hm:i ∈ Region.ready md ops listed:=by rw [hrr];simp
    have:=count_set (mem_ready.1 hm).1
    omega
  exact ⟨hr,hdone _ _ _ hr hI⟩
 | succ fuel ih =>
  intro listed a w hc hI;refine ⟨fun hr=>hdone _ _ _ hr hI,fun i hi=>?_⟩;refine wpOp_mono (fun a' w' h=>ih _ a' w' ?_ h) (hstep listed i a w hi hI)
  have:=count_set (mem_ready.1 hi).1
  omega
theorem FW {P:Program} {ops:Array Oper} {Q:Exit->Act->World->Prop} {id:Nat} {a:Act} {w:World} (Inv:Array Bool->Act->World->Prop) (hm:P.follows .mixedOrders=true)
  (hstep:∀listed i a w,i ∈ Region.ready .any ops listed->Inv listed a w->wpOp P ops Q i (Inv (listed.setIfInBounds i true)) a w)
  (hdone:∀listed a w,Region.ready .any ops listed = []->Inv listed a w->Q .normal a w)
  (h0:Inv (Array.replicate ops.size false) a { w with drawn:=w.drawn+1 }):(Code.region id ops true).wp P Q a w :=
 wp_region_any hm (abn Inv hstep hdone _ _ _ _ (by simp) h0)
end Go.Proofs.YtkdbgopgjbfhbaaGreatDoor
