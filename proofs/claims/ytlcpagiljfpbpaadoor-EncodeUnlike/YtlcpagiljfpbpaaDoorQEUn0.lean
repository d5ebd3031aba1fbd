/- Texts that the claim needs. -/
import Derived.Test.YtlcpagiljfpbpaaDoorRows
import Derived.WalkKit
import Derived.WalkSpells
import Derived.WalkSmall
import Derived.BigQuiet
import Derived.Deep.QuietTactic
import Derived.ProofKit
import Derived.OpenShut
import Derived.Lib.SmallJoins
import Derived.Deep.RegionWith
import Derived.Deep.CutRange
import Derived.Deep.Cut
namespace Go.Proofs.YtlcpagiljfpbpaaDoor
open Go.RowKit
namespace Rep
def Row {α:Type} (size:Nat) (f:Nat->Nat->α->Prop) (v:Value) (l:List α):Prop :=
 l.length<=9223372036854775807/\((l = []/\∃o cap,v=.slice o 0 cap)\/∃b off cap,v=.slice (some ⟨b,off,none⟩) l.length cap/\∀(i:Nat) (x:α),l[i]?=some x->f b (off+i*size) x)
theorem Row.len {α:Type} {size:Nat} {f:Nat->Nat->α->Prop} {v:Value} {l:List α} (h:Row size f v l):∃o cap,v=.slice o l.length cap:=by
 rcases h with ⟨_,⟨rfl,o,cap,rfl⟩|⟨b,off,cap,rfl,_⟩⟩
 ·exact ⟨o,cap,rfl⟩
 ·exact ⟨_,cap,rfl⟩
theorem Row.some {α:Type} {size:Nat} {f:Nat->Nat->α->Prop} {v:Value} {l:List α} (h:Row size f v l) (h0:0<l.length):∃b off cap,v=.slice (some ⟨b,off,none⟩) l.length cap/\∀(i:Nat) (x:α),l[i]?=some x->f b (off+i*size) x:=by
 rcases h with ⟨_,⟨rfl,_⟩|h⟩
 ·exact absurd h0 (by simp)
 ·exact h
theorem Row.imp {α:Type} {size:Nat} {f g:Nat->Nat->α->Prop} {v:Value} {l:List α} (h:Row size f v l) (hfg:∀b o x,x ∈ l->f b o x->g b o x):Row size g v l:=by
 rcases h with ⟨hl,h|⟨b,off,cap,hv,hc⟩⟩
 ·exact ⟨hl,.inl h⟩
 ·exact ⟨hl,.inr ⟨b,off,cap,hv,fun i x hi=>hfg _ _ _ (List.mem_of_getElem? hi) (hc i x hi)⟩⟩
def Ints (w:World) (v:Value) (l:List Int):Prop:=Row 1 (fun b o (z:Int)=>w.cell? ⟨b,o,none⟩=.some (.int .i64 z)) v l
theorem cell_on {w w':World} (hb:Below w.heap.size w w') {b o:Nat} {u:Value} (h:w.cell? ⟨b,o,none⟩=.some u):w'.cell? ⟨b,o,none⟩=.some u:=by
 rw [hb.cell (World.block_lt_of_cell? _ _ h)];exact h
theorem Ints.on {w w':World} (hb:Below w.heap.size w w') {v:Value} {l:List Int} (h:Ints w v l):Ints w' v l:=Row.imp h fun _ _ _ _ h=>cell_on hb h
structure Ins (α:Type) where
 op:Int
 a:Int
 b:Int
 n:Int
 labels:List Int
 body:α
 els:α
def IL:Nat->Type
 | 0=>Unit
 | d+1=>List (Ins (IL d))
structure InsAt {α:Type} (w:World) (sub:Value->α->Prop) (bk o:Nat) (x:Ins α):Prop where
 op:w.cell? ⟨bk,o,none⟩=.some (.int .i64 x.op)
 a:w.cell? ⟨bk,o+1,none⟩=.some (.int .i64 x.a)
 b:w.cell? ⟨bk,o+2,none⟩=.some (.int .i64 x.b)
 n:w.cell? ⟨bk,o+3,none⟩=.some (.int .i64 x.n)
 labels:∃v,w.cell? ⟨bk,o+4,none⟩=.some v/\Ints w v x.labels
 body:∃v,w.cell? ⟨bk,o+5,none⟩=.some v/\sub v x.body
 els:∃v,w.cell? ⟨bk,o+6,none⟩=.some v/\sub v x.els
def At (w:World):(d:Nat)->Value->IL d->Prop
 | 0,v,_=>∃o cap,v=.slice o 0 cap
 | d+1,v,l=>Row 7 (InsAt w (At w d)) v l
theorem InsAt.on {α : Type} {w w' : World} (hb : Below w.heap.size w w') {f g : Value → α → Prop} (hfg : ∀ v x, f v x → g v x) {b o : Nat} {x : Ins α} (h : InsAt w f b o x) : InsAt w' g b o x :=
  ⟨cell_on hb h.op, cell_on hb h.a, cell_on hb h.b, cell_on hb h.n,
   let ⟨v, h1, h2⟩ := h.labels; ⟨v, cell_on hb h1, h2.on hb⟩,
   let ⟨v, h1, h2⟩ := h.body; ⟨v, cell_on hb h1, hfg _ _ h2⟩,
   let ⟨v, h1, h2⟩ := h.els; ⟨v, cell_on hb h1, hfg _ _ h2⟩⟩
theorem At.on {w w':World} (hb:Below w.heap.size w w'):∀(d:Nat) (v:Value) (l:IL d),At w d v l->At w' d v l
 | 0,_,_,h=>h
 | d+1,_,_,h=>Row.imp (α:=Ins (IL d)) h fun _ _ _ _ h=>h.on hb (At.on hb d)
theorem below_drewN' (w:World) (n:Nat):Below w.heap.size w (w.drewN n):=⟨rfl,rfl,rfl,Nat.le_refl _,fun _ _=>rfl⟩
end Rep
end Go.Proofs.YtlcpagiljfpbpaaDoor

namespace Go.Proofs.YtlcpagiljfpbpaaDoor
open Go.RowKit Rep
namespace Rep
structure FT where
 params:List Int
 results:List Int
structure Imp where
 mod:ByteArray
 name:ByteArray
 type:Int
structure Fun (d:Nat) where
 type:Int
 locals:List Int
 body:IL d
structure Lim where
 min:Int
 max:Int
 has:Bool
structure Glo (d:Nat) where
 type:Int
 mtb:Bool
 init:Ins (IL d)
structure Exp where
 name:ByteArray
 kind:Int
 index:Int
structure Elm (d:Nat) where
 offset:Ins (IL d)
 funcs:List Int
structure Dat (d:Nat) where
 offset:Ins (IL d)
 bytes:ByteArray
structure Mod (d:Nat) where
 types:List FT
 imports:List Imp
 funcs:List (Fun d)
 tables:List Lim
 mems:List Lim
 globals:List (Glo d)
 exports:List Exp
 start:List Int
 elems:List (Elm d)
 datas:List (Dat d)
structure FTAt (w:World) (bk o:Nat) (x:FT):Prop where
 params:∃v,w.cell? ⟨bk,o,none⟩=.some v/\Ints w v x.params
 results:∃v,w.cell? ⟨bk,o+1,none⟩=.some v/\Ints w v x.results
structure ImpAt (w:World) (bk o:Nat) (x:Imp):Prop where
 mod:w.cell? ⟨bk,o,none⟩=.some (.string x.mod)
 name:w.cell? ⟨bk,o+1,none⟩=.some (.string x.name)
 type:w.cell? ⟨bk,o+2,none⟩=.some (.int .i64 x.type)
structure FunAt (w:World) (d:Nat) (bk o:Nat) (x:Fun d):Prop where
 type:w.cell? ⟨bk,o,none⟩=.some (.int .i64 x.type)
 locals:∃v,w.cell? ⟨bk,o+1,none⟩=.some v/\Ints w v x.locals
 body:∃v,w.cell? ⟨bk,o+2,none⟩=.some v/\At w d v x.body
structure LimAt (w:World) (bk o:Nat) (x:Lim):Prop where
 min:w.cell? ⟨bk,o,none⟩=.some (.int .i64 x.min)
 max:w.cell? ⟨bk,o+1,none⟩=.some (.int .i64 x.max)
 has:w.cell? ⟨bk,o+2,none⟩=.some (.bool x.has)
structure GloAt (w:World) (d:Nat) (bk o:Nat) (x:Glo d):Prop where
 type:w.cell? ⟨bk,o,none⟩=.some (.int .i64 x.type)
 mtb:w.cell? ⟨bk,o+1,none⟩=.some (.bool x.mtb)
 init:InsAt w (At w d) bk (o+2) x.init
structure ExpAt (w:World) (bk o:Nat) (x:Exp):Prop where
 name:w.cell? ⟨bk,o,none⟩=.some (.string x.name)
 kind:w.cell? ⟨bk,o+1,none⟩=.some (.int .i64 x.kind)
 index:w.cell? ⟨bk,o+2,none⟩=.some (.int .i64 x.index)
structure ElmAt (w:World) (d:Nat) (bk o:Nat) (x:Elm d):Prop where
 offset:InsAt w (At w d) bk o x.offset
 funcs:∃v,w.cell? ⟨bk,o+7,none⟩=.some v/\Ints w v x.funcs
structure DatAt (w:World) (d:Nat) (bk o:Nat) (x:Dat d):Prop where
 offset:InsAt w (At w d) bk o x.offset
 bytes:w.cell? ⟨bk,o+7,none⟩=.some (.string x.bytes)
structure ModAt (w:World) (d:Nat) (v0 v1 v2 v3 v4 v5 v6 v7 v8 v9:Value) (m:Mod d):Prop where
 types:Row 2 (FTAt w) v0 m.types
 imports:Row 3 (ImpAt w) v1 m.imports
 funcs:Row 3 (FunAt w d) v2 m.funcs
 tables:Row 3 (LimAt w) v3 m.tables
 mems:Row 3 (LimAt w) v4 m.mems
 globals:Row 9 (GloAt w d) v5 m.globals
 exports:Row 3 (ExpAt w) v6 m.exports
 start:Ints w v7 m.start
 elems:Row 8 (ElmAt w d) v8 m.elems
 datas:Row 8 (DatAt w d) v9 m.datas
section On
variable {w w':World} (hb:Below w.heap.size w w')
include hb
theorem FTAt.on {bk o:Nat} {x:FT} (h:FTAt w bk o x):FTAt w' bk o x :=
 ⟨let ⟨v,a,b⟩:=h.params;⟨v,cell_on hb a,b.on hb⟩,let ⟨v,a,b⟩:=h.results;⟨v,cell_on hb a,b.on hb⟩⟩
theorem ImpAt.on {bk o:Nat} {x:Imp} (h:ImpAt w bk o x):ImpAt w' bk o x:=⟨cell_on hb h.mod,cell_on hb h.name,cell_on hb h.type⟩
theorem FunAt.on {d bk o:Nat} {x:Fun d} (h:FunAt w d bk o x):FunAt w' d bk o x :=
 ⟨cell_on hb h.type,let ⟨v,a,b⟩:=h.locals;⟨v,cell_on hb a,b.on hb⟩,let ⟨v,a,b⟩:=h.body;⟨v,cell_on hb a,At.on hb d v _ b⟩⟩
theorem LimAt.on {bk o:Nat} {x:Lim} (h:LimAt w bk o x):LimAt w' bk o x:=⟨cell_on hb h.min,cell_on hb h.max,cell_on hb h.has⟩
theorem GloAt.on {d bk o:Nat} {x:Glo d} (h:GloAt w d bk o x):GloAt w' d bk o x:=⟨cell_on hb h.type,cell_on hb h.mtb,h.init.on hb (At.on hb d)⟩
theorem ExpAt.on {bk o:Nat} {x:Exp} (h:ExpAt w bk o x):ExpAt w' bk o x:=⟨cell_on hb h.name,cell_on hb h.kind,cell_on hb h.index⟩
theorem ElmAt.on {d bk o:Nat} {x:Elm d} (h:ElmAt w d bk o x):ElmAt w' d bk o x:=⟨h.offset.on hb (At.on hb d),let ⟨v,a,b⟩:=h.funcs;⟨v,cell_on hb a,b.on hb⟩⟩
theorem DatAt.on {d bk o:Nat} {x:Dat d} (h:DatAt w d bk o x):DatAt w' d bk o x:=⟨h.offset.on hb (At.on hb d),cell_on hb h.bytes⟩
theorem ModAt.on {d : Nat} {v0 v1 v2 v3 v4 v5 v6 v7 v8 v9 : Value} {m : Mod d} (h : ModAt w d v0 v1 v2 v3 v4 v5 v6 v7 v8 v9 m) : ModAt w' d v0 v1 v2 v3 v4 v5 v6 v7 v8 v9 m :=
  ⟨h.types.imp fun _ _ _ _ => FTAt.on hb, h.imports.imp fun _ _ _ _ => ImpAt.on hb, h.funcs.imp fun _ _ _ _ => FunAt.on hb, h.tables.imp fun _ _ _ _ => LimAt.on hb, h.mems.imp fun _ _ _ _ => LimAt.on hb,
   h.globals.imp fun _ _ _ _ => GloAt.on hb, h.exports.imp fun _ _ _ _ => ExpAt.on hb, h.start.on hb, h.elems.imp fun _ _ _ _ => ElmAt.on hb, h.datas.imp fun _ _ _ _ => DatAt.on hb⟩
end On
def size:(d:Nat)->IL d->Nat
 | 0,_=>0
 | _+1,l=>List.length l
theorem At.len {w:World}:∀(d:Nat) (v:Value) (l:IL d),At w d v l->∃o cap,v=.slice o (size d l) cap
 | 0,_,_,h=>h
 | _+1,_,_,h=>Row.len h
theorem At.bound {w:World}:∀(d:Nat) (v:Value) (l:IL d),At w d v l->size d l<=9223372036854775807
 | 0,_,_,_=>by show 0<=_;omega
 | _+1,_,_,h=>h.1
end Rep
end Go.Proofs.YtlcpagiljfpbpaaDoor

namespace Go.Proofs.YtlcpagiljfpbpaaDoor
open Go.RowKit Rep
set_option linter.unusedVariables false
namespace Rep
theorem choose_list {α:Type} (n:Nat) (f:Nat->α->Prop) (h:∀i,i<n->∃x,f i x):∃l:List α,l.length=n/\∀i x,l[i]?=some x->f i x:=by
 induction n with
 | zero=>exact ⟨[],rfl,fun i x hx=>by simp at hx⟩
 | succ n ih =>
  obtain ⟨l,hl,hf⟩:=ih fun i hi=>h i (by omega)
  obtain ⟨x,hx⟩:=h n (by omega)
  refine ⟨l++[x],by simp [hl],fun i y hy=>?_⟩
  by_cases hi:i<n
  ·rw [List.getElem?_append_left (by omega)] at hy;exact hf i y hy
  ·have hlt:i<(l++[x]).length:=(List.getElem?_eq_some_iff.1 hy).1
   have hi':i=n:=by simp [hl] at hlt;omega
   subst hi'
   rw [<- hl] at hy
   simp at hy
   subst hy
   exact hx
theorem spot_none {w:World} {a:Addr} {v:Value} (h:w.cell? a=some v):a.spot=none:=by
 obtain ⟨b,o,sp⟩:=a
 cases sp with
 | none=>rfl
 | some x =>
  unfold World.cell? at h
  split at h<;>simp at h
theorem add_addr (b o k:Nat):(⟨b,o,none⟩:Addr).add k=⟨b,o+k,none⟩:=by
 by_cases hk:k=0
 ·subst hk;rfl
 ·simp [Addr.add,hk]
variable {H:Type} {enc:TypeId × Value->H} {P:Program} {w:World} {base:Nat} {spare:Nat->Bool} {held:Bool}
theorem row_of_trod {α:Type} {t e:TypeId} {v:Value} {x:DataW H × List MemPlace} {fuel:Nat} (c:Nat) (hc:0<c) (f:Nat->Nat->α->Prop) (ht:P.underlying t=some (.slice e)) (hce:P.cellsOf e=c)
  (h:DataW.trod enc P w base spare held fuel t [v]=some x)
  (hel:∀n cs y b o,fuel=n+1->DataW.trod enc P w base spare held n e cs=some y->cs.length=c->(∀j,j<c->w.cell? ⟨b,o+j,none⟩=cs[j]?)->∃z,f b o z) :
  (∃l,Row c f v l)/\∀n c',v=.slice none n c'->c'=0:=by
 rcases DataW.trod_slice ht h with ⟨hv,_⟩|⟨a,len,cap,elems,rest,n,hfu,hv,_,_,hlc,hcm,hlen,hget,_,_⟩
 ·obtain rfl:v=.slice none 0 0:=by simpa using hv
  exact ⟨⟨[],by simp,.inl ⟨rfl,none,0,rfl⟩⟩,fun n c' h=>by injection h with _ _ h3;exact h3.symm⟩
 ·obtain rfl:v=.slice (some a) len cap:=by simpa using hv
  refine ⟨?_,fun n c' h=>by injection h with h1;cases h1⟩
  by_cases h0:len=0
  ·subst h0
   exact ⟨[],by simp,.inl ⟨rfl,_,_,rfl⟩⟩
  ·have hbind:∀i,i<len->∃cs y,w.cells? base (a.add (i*c)) c=some cs/\DataW.trod enc P w base spare held n e cs=some y:=fun i hi=>by
    have hg:=hget i hi
    rw [hce] at hg
    obtain ⟨y,hy⟩:∃y,elems[i]?=some y:=⟨_,List.getElem?_eq_getElem (by omega)⟩
    rw [hy] at hg
    obtain ⟨cs,h1,h2⟩:=Option.bind_eq_some_iff.1 hg
    exact ⟨cs,y,h1,h2⟩
   have hsp:a.spot=none:=by
    obtain ⟨cs,y,h1,h2⟩:=hbind 0 (by omega)
    obtain ⟨_,hl,hcell⟩:=World.cells?_some h1
    have h3:=hcell 0 hc
    rw [Nat.zero_mul] at h3
    have:cs[0]?=some (cs[0]'(by omega)):=List.getElem?_eq_getElem (by omega)
    rw [this] at h3
    have:=spot_none h3
    simpa [Addr.add] using this
   obtain ⟨b,off,sp⟩:=a
   simp only at hsp
   subst hsp
   obtain ⟨l,hl,hf⟩:=choose_list len (fun i z=>f b (off+i*c) z) fun i hi=>by
    obtain ⟨cs,y,h1,h2⟩:=hbind i hi
    obtain ⟨_,hl,hcell⟩:=World.cells?_some h1
    refine hel n cs y b (off+i*c) hfu h2 hl fun j hj=>?_
    have:=hcell j hj
    rw [add_addr,add_addr] at this
    exact this
   subst hl
   exact ⟨l,by unfold maxLen at hcm;omega,.inr ⟨b,off,cap,rfl,hf⟩⟩
theorem field_get {fs:Array Field} {xs:List (DataW H × List MemPlace)} {cs:List Value} {n:Nat} (hl:xs.length=fs.size)
  (hall:∀(i:Nat) (f:Field),fs[i]?=some f->DataW.trod enc P w base spare held n f.type ((cs.drop f.offset).take (P.cellsOf f.type))=xs[i]?) (i:Nat) (f:Field) (hf:fs[i]?=some f) :
  ∃y,DataW.trod enc P w base spare held n f.type ((cs.drop f.offset).take (P.cellsOf f.type))=some y:=by
 have hi:i<fs.size:=(Array.getElem?_eq_some_iff.1 hf).1
 exact ⟨xs[i]'(by omega),by rw [hall i f hf,List.getElem?_eq_getElem]⟩
theorem take_one {cs:List Value} {o:Nat} {v:Value} (h:(cs.drop o).take 1 = [v]):cs[o]?=some v:=by
 have:=congrArg (·[0]?) h
 simpa [List.getElem?_take,List.getElem?_drop] using this
theorem int_field {t:TypeId} {n:Nat} {cs:List Value} {o:Nat} {y:DataW H × List MemPlace} (ht:P.underlying t=some (.int .i64)) (hc:P.cellsOf t=1) (h:DataW.trod enc P w base spare held n t ((cs.drop o).take (P.cellsOf t))=some y):∃z:Int,cs[o]?=some (.int .i64 z)/\(Lit.int .i64 z).wf=true:=by
 rw [hc] at h
 obtain ⟨z,h1,_,h2⟩:=DataW.trod_int ht h
 exact ⟨z,take_one h1,h2⟩
theorem bool_field {t:TypeId} {n:Nat} {cs:List Value} {o:Nat} {y:DataW H × List MemPlace} (ht:P.underlying t=some .bool) (hc:P.cellsOf t=1) (h:DataW.trod enc P w base spare held n t ((cs.drop o).take (P.cellsOf t))=some y):∃z:Bool,cs[o]?=some (.bool z):=by
 rw [hc] at h
 obtain ⟨z,h1,_⟩:=DataW.trod_bool ht h
 exact ⟨z,take_one h1⟩
theorem str_field {t:TypeId} {n:Nat} {cs:List Value} {o:Nat} {y:DataW H × List MemPlace} (ht:P.underlying t=some .string) (hc:P.cellsOf t=1) (h:DataW.trod enc P w base spare held n t ((cs.drop o).take (P.cellsOf t))=some y):∃z:ByteArray,cs[o]?=some (.string z)/\z.size<=9223372036854775807:=by
 rw [hc] at h
 obtain ⟨z,h1,_,h2⟩:=DataW.trod_string ht h
 exact ⟨z,take_one h1,by unfold maxLen at h2;omega⟩
theorem slice_field {t e:TypeId} {n:Nat} {cs:List Value} {o:Nat} {y:DataW H × List MemPlace} (ht:P.underlying t=some (.slice e)) (hc:P.cellsOf t=1) (h:DataW.trod enc P w base spare held n t ((cs.drop o).take (P.cellsOf t))=some y):∃v,cs[o]?=some v/\DataW.trod enc P w base spare held n t [v]=some y:=by
 rw [hc] at h
 rcases DataW.trod_slice ht h with ⟨hv,_⟩|⟨a,len,cap,_,_,_,_,hv,_⟩
 ·rw [hv] at h;exact ⟨_,take_one hv,h⟩
 ·rw [hv] at h;exact ⟨_,take_one hv,h⟩
theorem row_mem {α:Type} {c:Nat} {f:Nat->Nat->α->Prop} {g:α->Prop} {v:Value} {l:List α} (h:Row c (fun b o x=>f b o x/\g x) v l):∀x ∈ l,g x:=by
 intro x hx
 rcases h.2 with ⟨rfl,_⟩|⟨b,off,cap,_,hc⟩
 ·cases hx
 ·obtain ⟨i,hi,rfl⟩:=List.getElem_of_mem hx
  exact (hc i _ (List.getElem?_eq_getElem hi)).2
end Rep
theorem cInt:Tryd.prog.cellsOf 3=1:=by kernel_rfl
theorem cBool:Tryd.prog.cellsOf 4=1:=by kernel_rfl
theorem cStr:Tryd.prog.cellsOf 9=1:=by kernel_rfl
theorem cInts:Tryd.prog.cellsOf 28=1:=by kernel_rfl
theorem cInstrs:Tryd.prog.cellsOf 40=1:=by kernel_rfl
theorem cInstr:Tryd.prog.cellsOf 50=7:=by kernel_rfl
theorem cFT:Tryd.prog.cellsOf 48=2:=by kernel_rfl
theorem cImp:Tryd.prog.cellsOf 71=3:=by kernel_rfl
theorem cFun:Tryd.prog.cellsOf 42=3:=by kernel_rfl
theorem cLim:Tryd.prog.cellsOf 73=3:=by kernel_rfl
theorem cGlo:Tryd.prog.cellsOf 56=9:=by kernel_rfl
theorem cExp:Tryd.prog.cellsOf 76=3:=by kernel_rfl
theorem cElm:Tryd.prog.cellsOf 52=8:=by kernel_rfl
theorem cDat:Tryd.prog.cellsOf 54=8:=by kernel_rfl
theorem cMod:Tryd.prog.cellsOf 32=10:=by kernel_rfl
section Of
variable {H:Type} {enc:TypeId × Value->H} {w:World} {base:Nat} {spare:Nat->Bool} {held:Bool}
theorem ints_of {fuel:Nat} {v:Value} {x:DataW H × List MemPlace} (h:DataW.trod enc Tryd.prog w base spare held fuel 28 [v]=some x):∃l,Ints w v l:=by
 refine (row_of_trod 1 (by omega) _ Tryd.underlying28 cInt h fun n cs y b o _ hy hl hc=>?_).1
 obtain ⟨z,h1,_,_⟩:=DataW.trod_int Tryd.underlying3 hy
 refine ⟨z,?_⟩
 have:=hc 0 (by omega)
 rw [h1] at this
 simpa using this
end Of
end Go.Proofs.YtlcpagiljfpbpaaDoor

namespace Go.Proofs.YtlcpagiljfpbpaaDoor
open Go.RowKit Rep
set_option linter.unusedVariables false
theorem hideR {p:Prop} (h:p):Hid p:=h
end Go.Proofs.YtlcpagiljfpbpaaDoor

namespace Go.Proofs.YtlcpagiljfpbpaaDoor
open Go.RowKit Rep
set_option linter.unusedVariables false
namespace Rep
theorem dec_on {α:Type} [DecidableEq α] {a b:List α} {j:Nat} {x y:α} {R:Bool} (hx:a[j]?=some x) (hy:b[j]?=some y) (h:R=decide (a.drop j=b.drop j)):R=(decide (x=y) && decide (a.drop (j+1)=b.drop (j+1))):=by
 have hl:j<a.length:=(List.getElem?_eq_some_iff.1 hx).1
 have he:a[j]=x:=(List.getElem?_eq_some_iff.1 hx).2
 have hl2:j<b.length:=(List.getElem?_eq_some_iff.1 hy).1
 have he2:b[j]=y:=(List.getElem?_eq_some_iff.1 hy).2
 rw [h,List.drop_eq_getElem_cons hl,he,List.drop_eq_getElem_cons hl2,he2,<- Bool.decide_and]
 simp only [List.cons.injEq]
end Rep
set_option maxRecDepth 100000 in
set_option maxHeartbeats 1000000 in
theorem refKeep (va vb:Value) (a b:List Int) (w:World) (hA:Ints w va a) (hB:Ints w vb b) :
  Calls Tryd.prog 19 #[va,vb] w fun e w'=>e=.returned (.bool (decide (a=b)))/\∃n,w'=w.drewN n:=by
 have la:=hA.1
 have lb:=hB.1
 obtain ⟨oa,ca,rfl⟩:=Row.len hA
 obtain ⟨ob,cb,rfl⟩:=Row.len hB
 have HA:=hideR hA
 have HB:=hideR hB
 obtain ⟨R,hR⟩:∃R,R=decide (a=b):=⟨_,rfl⟩
 rw [<- hR]
 have HR:Hid (R=decide (a.drop 0=b.drop 0)):=hR
 have HL:Hid (a.length≠b.length->R=false):=hideR (fun h=>by rw [hR,decide_eq_false (fun e=>h (by rw [e]))])
 clear hA hB hR
 generalize hn:a.length=n at *
 generalize hm:b.length=k at *
 by_cases hne:n=k
 rotate_left
 ·obtain rfl:=HL.out hne
  have hne':((n:Int) != (k:Int))=true:=by rw [bne_iff_ne];omega
  clear HR HL
  go_enter Tryd.func19,Tryd.ntmps19
  go_wp2
  go_ret
  exact ⟨rfl,0,rfl⟩
 subst hne
 clear HL
 go_enter Tryd.func19,Tryd.ntmps19
 go_wp2_with fail
 go_loopw [5] (fun i wr=>∃j q:Nat,j<=n/\i=.int .i64 j/\Hid (R=decide (a.drop j=b.drop j))/\wr=w.drewN q) (fun i _=>n-(RowKit.intOf i).toNat)
 case atStart=>exact ⟨0,0,by omega,rfl,HR,rfl⟩
 case round =>
  obtain ⟨j,q,hj,rfl,HK,rfl⟩:=hrel
  by_cases hgo:j<n
  ·obtain ⟨b1,off1,cap1,hv1,hx1⟩:=Row.some HA.out (by omega)
   injection hv1 with ho1 e11 e12
   subst ho1
   obtain ⟨b2,off2,cap2,hv2,hx2⟩:=Row.some HB.out (by omega)
   injection hv2 with ho2 e21 e22
   subst ho2
   obtain ⟨x,hxk⟩:∃x,a[j]?=some x:=⟨_,List.getElem?_eq_getElem (by omega)⟩
   obtain ⟨y,hyk⟩:∃y,b[j]?=some y:=⟨_,List.getElem?_eq_getElem (by omega)⟩
   have k1:=hx1 j x hxk
   have k2:=hx2 j y hyk
   rw [Nat.mul_one] at k1 k2
   have HN:=hideR (dec_on hxk hyk HK.out)
   clear hx1 hx2 hxk hyk HK e11 e12 e21 e22
   go_upto_region 6 with fail
   go_quiet (fail)
   by_cases hxy:x=y
   ·subst hxy
    have HN2:Hid (R=decide (a.drop (j+1)=b.drop (j+1))):=hideR (by rw [HN.out,decide_eq_true rfl,Bool.true_and])
    clear HN
    go_wp2
    go_roundw
    case rel=>exact ⟨j+1,q+nq,by omega,by go_num,HN2,by first|rfl|(rw [World.drewN_drewN])⟩
    case measure=>simp [RowKit.intOf];omega
   ·obtain rfl:R=false:=by rw [HN.out,decide_eq_false hxy];rfl
    have hxy':(x != y)=true:=by rw [bne_iff_ne];exact hxy
    clear HN
    go_wp2
    go_ret
    exact ⟨rfl,q+nq,by first|rfl|(rw [World.drewN_drewN])⟩
  ·obtain rfl:R=true:=by rw [HK.out,List.drop_of_length_le (by omega),List.drop_of_length_le (by omega)];rfl
   clear HK
   go_wp2
   go_ret
   exact ⟨rfl,q,rfl⟩
end Go.Proofs.YtlcpagiljfpbpaaDoor

namespace Go.Proofs.YtlcpagiljfpbpaaDoor
open Go.RowKit Rep
set_option linter.unusedVariables false
namespace Rep
theorem hideM {p:Prop} (h:p):Hid p:=h
def idx (n:Int):Bool:=decide (0<=n/\n<=4294967295)
def typ (n:Int):Bool:=decide (n=126\/n=127)
theorem all_end {α:Type} {p:α->Bool} {l:List α} {k:Nat} {r:Bool} (hk:¬ k<l.length) (h:r=(l.drop k).all p):r=true:=by
 rw [h,List.drop_of_length_le (by omega)];rfl
theorem all_on {α:Type} {p:α->Bool} {l:List α} {k:Nat} {r:Bool} {x:α} (hx:l[k]?=some x) (h:r=(l.drop k).all p):r=(p x && (l.drop (k+1)).all p):=by
 have hl:k<l.length:=(List.getElem?_eq_some_iff.1 hx).1
 have he:l[k]=x:=(List.getElem?_eq_some_iff.1 hx).2
 rw [h,List.drop_eq_getElem_cons hl,he,List.all_cons]
end Rep
end Go.Proofs.YtlcpagiljfpbpaaDoor

namespace Go.Proofs.YtlcpagiljfpbpaaDoor
open Go.RowKit Rep
set_option linter.unusedVariables false
def gave (k:Int):List PanicEntry:=[{ v:=.iface 35 (.int .i64 k),recovered:=false }]
def Needs (ok:Bool) (k:Int) (e:Ending):Prop:=(ok=true/\e=.returned (.tuple #[]))\/(ok=false/\e=.panicked (gave k))
set_option maxHeartbeats 400000 in
theorem pNeed (c:Bool) (k:Int) (w:World):Calls Tryd.prog 30 #[.bool c,.int .i64 k] w fun e w'=>Needs c k e/\w'=w:=by
 cases c
 ·go_enter Tryd.func30,Tryd.ntmps30
  go_wp2
  exact ⟨rfl,.inr ⟨rfl,rfl⟩,rfl⟩
 ·go_enter Tryd.func30,Tryd.ntmps30
  go_wp2
  go_end0
  exact ⟨.inl ⟨rfl,rfl⟩,rfl⟩
end Go.Proofs.YtlcpagiljfpbpaaDoor

namespace Go.Proofs.YtlcpagiljfpbpaaDoor
open Go.RowKit Rep
set_option linter.unusedVariables false
namespace Rep
structure Sn where
 op:Int
 a:Int
 b:Int
 n:Int
 labels:List Int
 nb:Nat
 ne:Nat
def sn {d:Nat} (x:Ins (IL d)):Sn:=⟨x.op,x.a,x.b,x.n,x.labels,size d x.body,size d x.els⟩
def goL {α σ:Type} (step:σ->Ins α->Option σ) (sub:α->σ->Option σ):List (Ins α)->σ->Option σ
 | [],s=>some s
 | x :: r,s=>(step s x).bind fun s1=>(sub x.body s1).bind fun s2=>(sub x.els s2).bind fun s3=>goL step sub r s3
def goI {σ:Type} (step:σ->Sn->Nat->Option σ):(d:Nat)->IL d->Nat->σ->Option σ
 | 0,_,_,s=>some s
 | d+1,l,k,s=>goL (fun s x=>step s (sn x) k) (fun y s=>goI step d y (k+1) s) l s
def rest {σ:Type} (step:σ->Sn->Nat->Option σ) (d:Nat) (l:List (Ins (IL d))) (k j:Nat) (s:σ):Option σ :=
 goL (fun s x=>step s (sn x) k) (fun y s=>goI step d y (k+1) s) (l.drop j) s
theorem rest_end {σ:Type} {step:σ->Sn->Nat->Option σ} {d:Nat} {l:List (Ins (IL d))} {k j:Nat} {s:σ} (h:l.length<=j):rest step d l k j s=some s:=by
 unfold rest;rw [List.drop_of_length_le h];rfl
theorem rest_on {σ:Type} {step:σ->Sn->Nat->Option σ} {d:Nat} {l:List (Ins (IL d))} {k j:Nat} {s:σ} {x:Ins (IL d)} (hx:l[j]?=some x) :
  rest step d l k j s=(step s (sn x) k).bind fun s1=>(goI step d x.body (k+1) s1).bind fun s2=>(goI step d x.els (k+1) s2).bind fun s3=>rest step d l k (j+1) s3:=by
 have hl:j<l.length:=(List.getElem?_eq_some_iff.1 hx).1
 have he:l[j]=x:=(List.getElem?_eq_some_iff.1 hx).2
 unfold rest
 rw [List.drop_eq_getElem_cons hl,he]
 rfl
structure Kp (S:Nat->Prop) (w w':World):Prop where
 os:w'.os=w.os
 tape:w'.tape=w.tape
 output:w'.output=w.output
 size:w.heap.size<=w'.heap.size
 block:∀k,k<w.heap.size->¬ S k->w'.heap[k]?=w.heap[k]?
theorem Kp.refl (S:Nat->Prop) (w:World):Kp S w w:=⟨rfl,rfl,rfl,Nat.le_refl _,fun _ _ _=>rfl⟩
theorem Kp.trans {S:Nat->Prop} {a b c:World} (h:Kp S a b) (k:Kp S b c):Kp S a c :=
 ⟨k.os.trans h.os,k.tape.trans h.tape,k.output.trans h.output,Nat.le_trans h.size k.size,fun i hi hs=>(k.block i (Nat.lt_of_lt_of_le hi h.size) hs).trans (h.block i hi hs)⟩
theorem Kp.of_below {S:Nat->Prop} {a b:World} (h:Below a.heap.size a b):Kp S a b:=⟨h.os,h.tape,h.output,h.size,fun i hi _=>h.block i hi⟩
theorem Kp.alloc {S:Nat->Prop} {a b:World} (h:Kp S a b) (o:Obj):Kp S a (b.alloc o):=h.trans (Kp.of_below ((Below.refl _ b).alloc (Nat.le_refl _) o))
theorem Kp.to_below {w w':World} (h:Kp (fun _=>False) w w'):Below w.heap.size w w':=⟨h.os,h.tape,h.output,h.size,fun k hk=>h.block k hk fun hs=>hs⟩
theorem Kp.below {S:Nat->Prop} {w0 a b:World} (hS:∀k,S k->w0.heap.size<=k) (h0:Below w0.heap.size w0 a) (h:Kp S a b):Below w0.heap.size w0 b :=
 h0.trans ⟨h.os,h.tape,h.output,h.size,fun k hk=>h.block k (Nat.lt_of_lt_of_le hk h0.size) fun hs=>absurd (hS k hs) (by omega)⟩
theorem Kp.cell {S:Nat->Prop} {a b:World} (h:Kp S a b) {p:Addr} (hp:p.block<a.heap.size) (hs:¬ S p.block):b.cell? p=a.cell? p:=World.cell?_of_block (w:=a) (h.block p.block hp hs)
theorem new_cell (w:World) (xs:Array Value) (t:TypeId) (i:Nat) (v:Value) (h:xs[i]?=some v):(w.alloc (.cells xs t)).cell? ⟨w.heap.size,i,none⟩=some v:=by
 rw [World.cell?_alloc_at xs t _ i rfl];exact h
theorem size_alloc (w:World) (o:Obj):(w.alloc o).heap.size=w.heap.size+1:=by simp
end Rep
def SeeC {σ:Type} (f:FuncId) (args:Value->Value->Array Value) (w0:World) (S:Nat->Prop) (Inv:σ->World->Prop) (step:σ->Sn->Nat->Option σ) (k:Int):Prop :=
 ∀(s:σ) (x:Sn) (lv bv ev:Value) (dep:Nat) (w:World),Below w0.heap.size w0 w->Inv s w->Ints w lv x.labels->(∃o c,bv=.slice o x.nb c)->(∃o c,ev=.slice o x.ne c)->dep<=4611686018427387904 ->
  Calls Tryd.prog f (args (.agg #[.int .i64 x.op,.int .i64 x.a,.int .i64 x.b,.int .i64 x.n,lv,bv,ev]) (.int .i64 dep)) w fun e w' =>
   Kp S w w'/\((∃s',step s x dep=some s'/\e=.returned (.tuple #[])/\Inv s' w')\/(step s x dep=none/\e=.panicked (gave k)))
def WalkSays {σ:Type} (fv:Value) (w0:World) (S:Nat->Prop) (Inv:σ->World->Prop) (step:σ->Sn->Nat->Option σ) (k:Int) (d:Nat):Prop :=
 ∀(v:Value) (l:IL d) (dep:Nat) (s:σ) (w:World),At w0 d v l->Below w0.heap.size w0 w->Inv s w->(∀k,S k->k<w.heap.size)->dep+d<=4611686018427387904 ->
  Calls Tryd.prog 52 #[v,.int .i64 dep,fv] w fun e w' =>
   Kp S w w'/\((∃s',goI step d l dep s=some s'/\e=.returned (.tuple #[])/\Inv s' w')\/(goI step d l dep s=none/\e=.panicked (gave k)))
end Go.Proofs.YtlcpagiljfpbpaaDoor

