/- Texts that the claim needs. -/
import Derived.Test.YtkflfohoinbenaaRows
import Derived.WalkKit
import Derived.WalkSpells
import Derived.WalkSmall
import Derived.BigQuiet
import Derived.Deep.QuietTactic
import Derived.Laws.RangeAny
import Derived.Lib.OthersKept
import Derived.Laws.Strings
import Derived.LoopTactic
import Derived.Deep.MidRow
import Derived.Shelf.LaysM
import Derived.Shelf.Lay
import Derived.Shelf.Strconv.Clone
import Derived.Laws.AppendOwn
import Derived.OwnWalk
import Derived.Deep.RegionWith
import Derived.Laws.AppendOwnNone
import Derived.Orders
import Derived.Deep.RegionLaw
import Derived.Deep.CutRange
import Derived.Laws.EntriesVeiled
namespace Go.Proofs.Ytkflfohoinbenaa
open Go.RowKit
set_option linter.unusedVariables false
namespace Lx
def bt (s:ByteArray) (k:Nat):Int:=if h:k<s.size then ((s[k]'h).toNat:Int) else 0
def sm (c:Int):Bool:=decide (97<=c) && decide (c<=122)
def cp (c:Int):Bool:=decide (65<=c) && decide (c<=90)
def dg (c:Int):Bool:=decide (48<=c) && decide (c<=57)
def pt (c:Int):Bool:=sm c || cp c || dg c || c == 95
def enF (s:ByteArray) (p:Int->Bool):Nat->Nat->Nat
 | 0,i=>i
 | f+1,i=>if i<s.size/\p (bt s i)=true then enF s p f (i+1) else i
def en (s:ByteArray) (p:Int->Bool) (i:Nat):Nat:=enF s p (s.size-i) i
section
variable (s:ByteArray) (p:Int->Bool)
end
section
variable (s:ByteArray)
end
end Lx
namespace Lx
def vlF (s:ByteArray):Nat->Nat->Int->Int
 | 0,_,n=>n
 | k+1,i,n=>vlF s k (i+1) (n*10+(bt s i-48))
def isIn (n:Int):Bool:=decide (-1073741824<=n) && decide (n<=1073741823)
def num (s:ByteArray) (a f:Nat):Option (Int × Nat) :=
 if en s dg f=f\/(1<en s dg f-f/\bt s f=48)\/10<en s dg f-f then none
 else if isIn (if a<f then -vlF s (en s dg f-f) f 0 else vlF s (en s dg f-f) f 0)=true then some (if a<f then -vlF s (en s dg f-f) f 0 else vlF s (en s dg f-f) f 0,en s dg f) else none
def keys:List ByteArray:=[⟨#[116,121,112,101]⟩,⟨#[102,117,110]⟩,⟨#[108,101,116]⟩,⟨#[114,101,99]⟩,⟨#[105,110]⟩,⟨#[99,97,115,101]⟩,⟨#[111,102]⟩,⟨#[101,110,100]⟩,⟨#[105,102]⟩,⟨#[116,104,101,110]⟩,⟨#[101,108,115,101]⟩,⟨#[112,114,105,110,116]⟩]
def sgn2:List ByteArray:=[⟨#[45,62]⟩,⟨#[61,61]⟩]
def sgn1:List ByteArray:=[⟨#[124]⟩,⟨#[61]⟩,⟨#[40]⟩,⟨#[41]⟩,⟨#[59]⟩,⟨#[43]⟩,⟨#[45]⟩,⟨#[42]⟩,⟨#[47]⟩,⟨#[37]⟩,⟨#[60]⟩,⟨#[95]⟩]
def signs:List ByteArray:=sgn2++sgn1
def amg (s:ByteArray):List ByteArray->Bool
 | []=>false
 | x :: l=>if x=s then true else amg s l
def one (s:ByteArray) (i:Nat):Except Int (Int × ByteArray × Int × Nat) :=
 if sm (bt s i)=true\/cp (bt s i)=true then
  (if 32<en s pt i-i then .error 2 else .ok (if cp (bt s i)=true then 2 else if amg (s.extract i (en s pt i)) keys=true then 5 else 1,s.extract i (en s pt i),0,en s pt i))
 else if bt s i=39 then
  (if i+1=s.size\/sm (bt s (i+1))=false then .error 110 else if 32<en s pt (i+1)-(i+1) then .error 2 else .ok (3,s.extract (i+1) (en s pt (i+1)),0,en s pt (i+1)))
 else if bt s i=126\/dg (bt s i)=true then
  (match num s i (if bt s i=126 then i+1 else i) with|some (n,e)=>.ok (4,⟨#[]⟩,n,e)|none=>.error 110)
 else if i+2<=s.size/\amg (s.extract i (i+2)) signs=true then .ok (6,s.extract i (i+2),0,i+2)
 else if i+1<=s.size/\amg (s.extract i (i+1)) signs=true then .ok (6,s.extract i (i+1),0,i+1)
 else .error 110
structure Tk where
 k:Int
 x:ByteArray
 n:Int
 a:Int
end Lx
namespace Pz
open Lx
def nd (k:Int) (x y:ByteArray) (n:Int) (es ps:List Value) (a:Int):Value:=.agg #[.int .i64 k,.string x,.string y,.int .i64 n,.agg es.toArray,.agg ps.toArray,.int .i64 a]
abbrev e0:ByteArray:=⟨#[]⟩
def atV:Value->Int
 | .agg c=>match (c:Array Value)[6]? with
  | some (Value.int _ a)=>a
  | _=>0
 | _=>0
theorem atV_nd (k:Int) (x y:ByteArray) (n:Int) (es ps:List Value) (a:Int):atV (nd k x y n es ps a)=a:=rfl
def kindV:Value->Int
 | .agg c=>match (c:Array Value)[0]? with
  | some (Value.int _ a)=>a
  | _=>0
 | _=>0
-- words
section
variable (L:List Tk) (en:Int)
end
abbrev Rd (α:Type):=Except Int (α × Nat)
section
variable (L:List Tk) (en:Int)
-- types
-- patterns
-- expressions
-- declared types: a constructor is its name and its fields;a declared type its name,parameters,constructors,place
def cnV (x:ByteArray) (ts:List Value):Value:=.agg #[.string x,.agg ts.toArray]
def dcV (x:ByteArray) (ps:List ByteArray) (cs:List Value) (a:Int):Value:=.agg #[.string x,.agg (ps.map Value.string).toArray,.agg cs.toArray,.int .i64 a]
end
end Pz
theorem hideR {p:Prop} (h:p):Hid p:=h
end Go.Proofs.Ytkflfohoinbenaa
namespace Go.Proofs.Ytkflfohoinbenaa
open Go.RowKit Lx
set_option linter.unusedVariables false
theorem ret_bool {a b:Bool} (h:a=b):Ending.returned (.bool a)=.returned (.bool b):=by rw [h]
theorem below_go {w u v:World} (h:Below w.heap.size w u) (k:Below u.heap.size u v):Below w.heap.size w v:=h.trans (k.mono h.size)
set_option linter.unusedVariables false
set_option linter.unusedVariables false
set_option linter.unusedVariables false
namespace Lx
end Lx
namespace Lx
theorem cells_heap (g:Nat) (t:TypeId):∀(vs:List Value) (o:Nat) (w:World) (cur:Array Value),w.heap[g]?=some (.cells cur t (0,0))->o+vs.length<=cur.size ->
  (w.setCells g o vs).heap[g]?=some (.cells (cur.toList.take o++vs++cur.toList.drop (o+vs.length)).toArray t (0,0))
 | [],o,w,cur,h,_=>by simpa [World.setCells] using h
 | v :: r,o,w,cur,h,hl=>by
  simp only [List.length_cons] at hl
  have h1:=cells_heap g t r (o+1) (w.setCell ⟨g,o,none⟩ v) (cur.setIfInBounds o v) (heap_setCell_same w g o cur t v h) (by rw [Array.size_setIfInBounds];omega)
  rw [World.setCells,h1,Array.toList_setIfInBounds]
  have hs:o<cur.toList.length:=by rw [Array.length_toList];omega
  have e1:(cur.toList.set o v).take (o+1)=cur.toList.take o++[v]:=by
   rw [List.take_add_one,List.take_set_of_le (Nat.le_refl o),List.getElem?_set_self hs];rfl
  have e2:(cur.toList.set o v).drop (o+1+r.length)=cur.toList.drop (o+1+r.length):=List.drop_set_of_lt (by omega)
  rw [e1,e2]
  simp only [List.length_cons,List.append_assoc,List.cons_append,List.nil_append]
  rw [show o+1+r.length=o+(r.length+1) by omega]
theorem cells_below (B g:Nat) (hg:B<=g):∀(vs:List Value) (o:Nat) (w u:World),Below B w u->Below B w (u.setCells g o vs)
 | [],_,w,u,h=>h
 | v :: r,o,w,u,h=>cells_below B g hg r (o+1) w _ (h.setCell hg _)
end Lx
end Go.Proofs.Ytkflfohoinbenaa
namespace Go.Proofs.Ytkflfohoinbenaa
open Go.RowKit Go.Shelf Lx
set_option linter.unusedVariables false
def Try.laysClone_ren:Go.Shelf.Ren:=⟨fun|316=>72|n=>n,fun|9=>9|3=>3|4=>4|37=>126|0=>0|127=>127|5=>5|n=>n,fun|n=>n⟩
theorem Try.laysClone:Go.Proofs.LaysM.n316 Try.prog Try.laysClone_ren:={
 mixed:=by kernel_rfl
 f316:=Try.func72.trans (congrArg some (by kernel_rfl))
 t0:=Try.underlying0
 a0:=Try.isAgg0
 z0:=Try.sizeOf0
 v0:=Try.zeroValue0
 t3:=Try.underlying3
 a3:=Try.isAgg3
 z3:=Try.sizeOf3
 v3:=Try.zeroValue3
 t4:=Try.underlying4
 a4:=Try.isAgg4
 z4:=Try.sizeOf4
 v4:=Try.zeroValue4
 t9:=Try.underlying9
 a9:=Try.isAgg9
 z9:=Try.sizeOf9
 v9:=Try.zeroValue9
 t37:=Try.underlying126
 a37:=Try.isAgg126
 z37:=Try.sizeOf126
 v37:=Try.zeroValue126
 t127:=Try.underlying127
 a127:=Try.isAgg127
 z127:=Try.sizeOf127
 v127:=Try.zeroValue127
 t5:=Try.underlying5
 a5:=Try.isAgg5
 z5:=Try.sizeOf5
 v5:=Try.zeroValue5
 i0:=by kernel_rfl
 i3:=by kernel_rfl
 i4:=by kernel_rfl
 i5:=by kernel_rfl
 i9:=by kernel_rfl
 i37:=by kernel_rfl
 i127:=by kernel_rfl }
theorem pCloneS (s:ByteArray) (w:World) (h:s.size<=281474976710656):Calls Try.prog 72 #[.string s] w fun e w'=>e=.returned (.string s)/\Below w.heap.size w w' :=
 Any.stringslite_Clone Try.laysClone s w h
theorem pClone (s:ByteArray) (w:World) (h:s.size<=281474976710656):Calls Try.prog 58 #[.string s] w fun e w'=>e=.returned (.string s)/\Below w.heap.size w w':=by
 have H:=hideR (pCloneS s w h)
 go_enter Try.func58,Try.ntmps58
 go_wp2_with fail
 refine H.out.mono ?_
 rintro e u ⟨rfl,hb⟩
 have HB:=hideR hb
 clear hb
 go_wp2
 go_ret
 exact ⟨rfl,HB.out⟩
namespace Lx
end Lx
end Go.Proofs.Ytkflfohoinbenaa
namespace Go.Proofs.Ytkflfohoinbenaa
open Go.RowKit Lx
set_option linter.unusedVariables false
namespace Lx
section
variable {b:Nat} {a0 a1 a2 a3:Value} {u u' w:World}
end
end Lx
namespace Lx
def cs4 (t:Tk):List Value:=[.int .i64 t.k,.string t.x,.int .i64 t.n,.int .i64 t.a]
def TkAt (w:World) (v:Value) (l:List Tk):Prop :=
 (v=.slice none 0 0/\l = [])\/∃g c,v=.slice (some ⟨g,0,none⟩) l.length c/\∀i t,l[i]?=some t->∀j u,(cs4 t)[j]?=some u->w.cell? ⟨g,i*4+j,none⟩=some u
theorem TkAt.nil (w:World):TkAt w (.slice none 0 0) []:=.inl ⟨rfl,rfl⟩
theorem TkAt.on {w w':World} {v:Value} {l:List Tk} (h:TkAt w v l) (hb:Below w.heap.size w w'):TkAt w' v l:=by
 rcases h with h|⟨g,c,h1,h2⟩
 ·exact .inl h
 ·refine .inr ⟨g,c,h1,fun i t hi j u hj=>?_⟩
  have hc:=h2 i t hi j u hj
  have hlt:g<w.heap.size:=by
   unfold World.cell? at hc
   rcases Nat.lt_or_ge g w.heap.size with hl|hl
   ·exact hl
   ·rw [Array.getElem?_eq_none hl] at hc;cases hc
  unfold World.cell? at hc ⊢
  rw [hb.block g hlt]
  exact hc
end Lx
end Go.Proofs.Ytkflfohoinbenaa
namespace Go.Proofs.Ytkflfohoinbenaa
open Go.RowKit
namespace Rep
def Row {α:Type} (size:Nat) (f:Nat->Nat->α->Prop) (v:Value) (l:List α):Prop :=
 l.length<=9223372036854775807/\((l = []/\∃o cap,v=.slice o 0 cap)\/∃b off cap,v=.slice (some ⟨b,off,none⟩) l.length cap/\∀(i:Nat) (x:α),l[i]?=some x->f b (off+i*size) x)
theorem Row.len {α:Type} {size:Nat} {f:Nat->Nat->α->Prop} {v:Value} {l:List α} (h:Row size f v l):∃o cap,v=.slice o l.length cap:=by
 rcases h with ⟨_,⟨rfl,o,cap,rfl⟩|⟨b,off,cap,rfl,_⟩⟩
 ·exact ⟨o,cap,rfl⟩
 ·exact ⟨_,cap,rfl⟩
theorem Row.some {α:Type} {size:Nat} {f:Nat->Nat->α->Prop} {v:Value} {l:List α} (h:Row size f v l) (h0:0<l.length):∃b off cap,v=.slice (some ⟨b,off,none⟩) l.length cap/\∀(i:Nat) (x:α),l[i]?=some x->f b (off+i*size) x:=by
 rcases h with ⟨_,⟨rfl,_⟩|h⟩
 ·exact absurd h0 (by simp)
 ·exact h
theorem Row.imp {α:Type} {size:Nat} {f g:Nat->Nat->α->Prop} {v:Value} {l:List α} (h:Row size f v l) (hfg:∀b o x,x ∈ l->f b o x->g b o x):Row size g v l:=by
 rcases h with ⟨hl,h|⟨b,off,cap,hv,hc⟩⟩
 ·exact ⟨hl,.inl h⟩
 ·exact ⟨hl,.inr ⟨b,off,cap,hv,fun i x hi=>hfg _ _ _ (List.mem_of_getElem? hi) (hc i x hi)⟩⟩
def Ints (w:World) (v:Value) (l:List Int):Prop:=Row 1 (fun b o (z:Int)=>w.cell? ⟨b,o,none⟩=.some (.int .i64 z)) v l
theorem cell_on {w w':World} (hb:Below w.heap.size w w') {b o:Nat} {u:Value} (h:w.cell? ⟨b,o,none⟩=.some u):w'.cell? ⟨b,o,none⟩=.some u:=by
 rw [hb.cell (World.block_lt_of_cell? _ _ h)];exact h
theorem Ints.on {w w':World} (hb:Below w.heap.size w w') {v:Value} {l:List Int} (h:Ints w v l):Ints w' v l:=Row.imp h fun _ _ _ _ h=>cell_on hb h
structure Ins (α:Type) where
 op:Int
 a:Int
 b:Int
 n:Int
 labels:List Int
 body:α
 els:α
def IL:Nat->Type
 | 0=>Unit
 | d+1=>List (Ins (IL d))
structure InsAt {α:Type} (w:World) (sub:Value->α->Prop) (bk o:Nat) (x:Ins α):Prop where
 op:w.cell? ⟨bk,o,none⟩=.some (.int .i64 x.op)
 a:w.cell? ⟨bk,o+1,none⟩=.some (.int .i64 x.a)
 b:w.cell? ⟨bk,o+2,none⟩=.some (.int .i64 x.b)
 n:w.cell? ⟨bk,o+3,none⟩=.some (.int .i64 x.n)
 labels:∃v,w.cell? ⟨bk,o+4,none⟩=.some v/\Ints w v x.labels
 body:∃v,w.cell? ⟨bk,o+5,none⟩=.some v/\sub v x.body
 els:∃v,w.cell? ⟨bk,o+6,none⟩=.some v/\sub v x.els
def At (w:World):(d:Nat)->Value->IL d->Prop
 | 0,v,_=>∃o cap,v=.slice o 0 cap
 | d+1,v,l=>Row 7 (InsAt w (At w d)) v l
theorem InsAt.on {α : Type} {w w' : World} (hb : Below w.heap.size w w') {f g : Value → α → Prop} (hfg : ∀ v x, f v x → g v x) {b o : Nat} {x : Ins α} (h : InsAt w f b o x) : InsAt w' g b o x :=
  ⟨cell_on hb h.op, cell_on hb h.a, cell_on hb h.b, cell_on hb h.n,
   let ⟨v, h1, h2⟩ := h.labels; ⟨v, cell_on hb h1, h2.on hb⟩,
   let ⟨v, h1, h2⟩ := h.body; ⟨v, cell_on hb h1, hfg _ _ h2⟩,
   let ⟨v, h1, h2⟩ := h.els; ⟨v, cell_on hb h1, hfg _ _ h2⟩⟩
theorem At.on {w w':World} (hb:Below w.heap.size w w'):∀(d:Nat) (v:Value) (l:IL d),At w d v l->At w' d v l
 | 0,_,_,h=>h
 | d+1,_,_,h=>Row.imp (α:=Ins (IL d)) h fun _ _ _ _ h=>h.on hb (At.on hb d)
theorem below_drewN' (w:World) (n:Nat):Below w.heap.size w (w.drewN n):=⟨rfl,rfl,rfl,Nat.le_refl _,fun _ _=>rfl⟩
end Rep
end Go.Proofs.Ytkflfohoinbenaa
namespace Go.Proofs.Ytkflfohoinbenaa
open Go.RowKit Rep
set_option linter.unusedVariables false
namespace Rep
structure FT where
 params:List Int
 results:List Int
structure Imp where
 mod:ByteArray
 name:ByteArray
 type:Int
structure Fun (d:Nat) where
 type:Int
 locals:List Int
 body:IL d
structure Lim where
 min:Int
 max:Int
 has:Bool
structure Glo (d:Nat) where
 type:Int
 mtb:Bool
 init:Ins (IL d)
structure Exp where
 name:ByteArray
 kind:Int
 index:Int
structure Elm (d:Nat) where
 offset:Ins (IL d)
 funcs:List Int
structure Dat (d:Nat) where
 offset:Ins (IL d)
 bytes:ByteArray
structure Mod (d:Nat) where
 types:List FT
 imports:List Imp
 funcs:List (Fun d)
 tables:List Lim
 mems:List Lim
 globals:List (Glo d)
 exports:List Exp
 start:List Int
 elems:List (Elm d)
 datas:List (Dat d)
structure FTAt (w:World) (bk o:Nat) (x:FT):Prop where
 params:∃v,w.cell? ⟨bk,o,none⟩=.some v/\Ints w v x.params
 results:∃v,w.cell? ⟨bk,o+1,none⟩=.some v/\Ints w v x.results
structure ImpAt (w:World) (bk o:Nat) (x:Imp):Prop where
 mod:w.cell? ⟨bk,o,none⟩=.some (.string x.mod)
 name:w.cell? ⟨bk,o+1,none⟩=.some (.string x.name)
 type:w.cell? ⟨bk,o+2,none⟩=.some (.int .i64 x.type)
structure FunAt (w:World) (d:Nat) (bk o:Nat) (x:Fun d):Prop where
 type:w.cell? ⟨bk,o,none⟩=.some (.int .i64 x.type)
 locals:∃v,w.cell? ⟨bk,o+1,none⟩=.some v/\Ints w v x.locals
 body:∃v,w.cell? ⟨bk,o+2,none⟩=.some v/\At w d v x.body
structure LimAt (w:World) (bk o:Nat) (x:Lim):Prop where
 min:w.cell? ⟨bk,o,none⟩=.some (.int .i64 x.min)
 max:w.cell? ⟨bk,o+1,none⟩=.some (.int .i64 x.max)
 has:w.cell? ⟨bk,o+2,none⟩=.some (.bool x.has)
structure GloAt (w:World) (d:Nat) (bk o:Nat) (x:Glo d):Prop where
 type:w.cell? ⟨bk,o,none⟩=.some (.int .i64 x.type)
 mtb:w.cell? ⟨bk,o+1,none⟩=.some (.bool x.mtb)
 init:InsAt w (At w d) bk (o+2) x.init
structure ExpAt (w:World) (bk o:Nat) (x:Exp):Prop where
 name:w.cell? ⟨bk,o,none⟩=.some (.string x.name)
 kind:w.cell? ⟨bk,o+1,none⟩=.some (.int .i64 x.kind)
 index:w.cell? ⟨bk,o+2,none⟩=.some (.int .i64 x.index)
structure ElmAt (w:World) (d:Nat) (bk o:Nat) (x:Elm d):Prop where
 offset:InsAt w (At w d) bk o x.offset
 funcs:∃v,w.cell? ⟨bk,o+7,none⟩=.some v/\Ints w v x.funcs
structure DatAt (w:World) (d:Nat) (bk o:Nat) (x:Dat d):Prop where
 offset:InsAt w (At w d) bk o x.offset
 bytes:w.cell? ⟨bk,o+7,none⟩=.some (.string x.bytes)
structure ModAt (w:World) (d:Nat) (v0 v1 v2 v3 v4 v5 v6 v7 v8 v9:Value) (m:Mod d):Prop where
 types:Row 2 (FTAt w) v0 m.types
 imports:Row 3 (ImpAt w) v1 m.imports
 funcs:Row 3 (FunAt w d) v2 m.funcs
 tables:Row 3 (LimAt w) v3 m.tables
 mems:Row 3 (LimAt w) v4 m.mems
 globals:Row 9 (GloAt w d) v5 m.globals
 exports:Row 3 (ExpAt w) v6 m.exports
 start:Ints w v7 m.start
 elems:Row 8 (ElmAt w d) v8 m.elems
 datas:Row 8 (DatAt w d) v9 m.datas
section On
variable {w w':World} (hb:Below w.heap.size w w')
theorem FTAt.on (hb:Below w.heap.size w w') {bk o:Nat} {x:FT} (h:FTAt w bk o x):FTAt w' bk o x :=
 ⟨let ⟨v,a,b⟩:=h.params;⟨v,cell_on hb a,b.on hb⟩,let ⟨v,a,b⟩:=h.results;⟨v,cell_on hb a,b.on hb⟩⟩
theorem ImpAt.on (hb:Below w.heap.size w w') {bk o:Nat} {x:Imp} (h:ImpAt w bk o x):ImpAt w' bk o x:=⟨cell_on hb h.mod,cell_on hb h.name,cell_on hb h.type⟩
theorem FunAt.on (hb:Below w.heap.size w w') {d bk o:Nat} {x:Fun d} (h:FunAt w d bk o x):FunAt w' d bk o x :=
 ⟨cell_on hb h.type,let ⟨v,a,b⟩:=h.locals;⟨v,cell_on hb a,b.on hb⟩,let ⟨v,a,b⟩:=h.body;⟨v,cell_on hb a,At.on hb d v _ b⟩⟩
theorem LimAt.on (hb:Below w.heap.size w w') {bk o:Nat} {x:Lim} (h:LimAt w bk o x):LimAt w' bk o x:=⟨cell_on hb h.min,cell_on hb h.max,cell_on hb h.has⟩
theorem GloAt.on (hb:Below w.heap.size w w') {d bk o:Nat} {x:Glo d} (h:GloAt w d bk o x):GloAt w' d bk o x:=⟨cell_on hb h.type,cell_on hb h.mtb,h.init.on hb (At.on hb d)⟩
theorem ExpAt.on (hb:Below w.heap.size w w') {bk o:Nat} {x:Exp} (h:ExpAt w bk o x):ExpAt w' bk o x:=⟨cell_on hb h.name,cell_on hb h.kind,cell_on hb h.index⟩
theorem ElmAt.on (hb:Below w.heap.size w w') {d bk o:Nat} {x:Elm d} (h:ElmAt w d bk o x):ElmAt w' d bk o x:=⟨h.offset.on hb (At.on hb d),let ⟨v,a,b⟩:=h.funcs;⟨v,cell_on hb a,b.on hb⟩⟩
theorem DatAt.on (hb:Below w.heap.size w w') {d bk o:Nat} {x:Dat d} (h:DatAt w d bk o x):DatAt w' d bk o x:=⟨h.offset.on hb (At.on hb d),cell_on hb h.bytes⟩
theorem ModAt.on (hb : Below w.heap.size w w') {d : Nat} {v0 v1 v2 v3 v4 v5 v6 v7 v8 v9 : Value} {m : Mod d} (h : ModAt w d v0 v1 v2 v3 v4 v5 v6 v7 v8 v9 m) : ModAt w' d v0 v1 v2 v3 v4 v5 v6 v7 v8 v9 m :=
  ⟨h.types.imp fun _ _ _ _ => FTAt.on hb, h.imports.imp fun _ _ _ _ => ImpAt.on hb, h.funcs.imp fun _ _ _ _ => FunAt.on hb, h.tables.imp fun _ _ _ _ => LimAt.on hb, h.mems.imp fun _ _ _ _ => LimAt.on hb,
   h.globals.imp fun _ _ _ _ => GloAt.on hb, h.exports.imp fun _ _ _ _ => ExpAt.on hb, h.start.on hb, h.elems.imp fun _ _ _ _ => ElmAt.on hb, h.datas.imp fun _ _ _ _ => DatAt.on hb⟩
end On
def size:(d:Nat)->IL d->Nat
 | 0,_=>0
 | _+1,l=>List.length l
theorem At.len {w:World}:∀(d:Nat) (v:Value) (l:IL d),At w d v l->∃o cap,v=.slice o (size d l) cap
 | 0,_,_,h=>h
 | _+1,_,_,h=>Row.len h
theorem At.bound {w:World}:∀(d:Nat) (v:Value) (l:IL d),At w d v l->size d l<=9223372036854775807
 | 0,_,_,_=>by show 0<=_;omega
 | _+1,_,_,h=>h.1
end Rep
set_option linter.unusedVariables false
theorem new_on' (w:World) (o:Obj):Below w.heap.size w (w.alloc o):=(Below.refl _ w).alloc (Nat.le_refl _) o
section App
variable {P:Program}
theorem run_app (w:World) (base:Nat) (t ty e:TypeId) (i:TypeInfo) (z:Value) (size bytes:Nat) (ht:P.underlying t=some (.slice e)) (hi:P.info? e=some i) (hz:i.zero=some z)
  (hsize:i.size=size) (hby:i.bytes=bytes) (hzs:z.cells.size=size) (hsz:0<size)
  (v:Value) (n:Nat) (xs:List Value) (hown:w.ownsRow base e size v n xs)
  (a:Addr) (m c:Nat) (news:List Value) (hl:news.length=m*size) (hnews:∀j u,news[j]?=some u->w.cell? (a.add j)=some u) (h1:∀u ∈ news,u.oneCell'=true)
  (h63:n+m<=maxLen) (hbytes:(n+m)*bytes<=140737488355328) (hbase:base<=w.heap.size) :
  ∃v' w',(Builtin.append_ #[t,t] ty #[v,.slice (some a) m c]).run P w=.ok v' w'/\w'.ownsRow base e size v' (n+m) (xs++news)/\w.grownBy w' v.ownBlock /\
   (v'.ownBlock=v.ownBlock\/v'.ownBlock=some w.heap.size):=by
 obtain ⟨v',w',hr,h2,h3,h4⟩:=run_append_own (P:=P) w base t ty e i z size bytes ht hi hz hsize hby hzs hsz v n xs hown a m c news hl hnews h1 h63 hbytes hbase
 refine ⟨v',w',hr,h2,h3,?_⟩
 subst hsize
 subst hby
 unfold maxLen at h63
 rcases hown.2 with ⟨rfl,rfl⟩|⟨g,cap,cur,rfl,hbg,hg,hnc,hcm,hcs,htake⟩
 ·by_cases hm:m=0
  ·left;rw [h4.2 ⟨rfl,hm⟩]
  ·rw [run_append_nil (P:=P) w t ty e i z ht hi hz a m c news hl hnews (by omega) (by omega) (by simp only [Nat.zero_add] at hbytes;omega)] at hr
   injection hr with hv _
   right;rw [<- hv];rfl
 ·by_cases hroom:n+m<=cap
  ·have hfit:n*i.size+news.length<=cur.size:=by rw [hl,hcs,<- Nat.add_mul];exact Nat.mul_le_mul_right _ hroom
   rw [run_append_room (P:=P) w t ty e i ht hi g n cap cur hg a m c news hl hnews h1 hroom hfit] at hr
   injection hr with hv _
   left;rw [<- hv];rfl
  ·have holds:∀j u,xs[j]?=some u->w.cell? ((⟨g,0,none⟩:Addr).add j)=some u:=hown.cells (g:=g) rfl
   rw [run_append_grow (P:=P) w t ty e i z ht hi hz ⟨g,0,none⟩ n cap xs hown.1 holds a m c news hl hnews (by omega) (by omega) (growslice_fits (by omega) hbytes)] at hr
   injection hr with hv _
   right;rw [<- hv];rfl
theorem run_app_none (w:World) (base:Nat) (t ty e:TypeId) (i:TypeInfo) (size:Nat) (ht:P.underlying t=some (.slice e)) (hi:P.info? e=some i) (v:Value) (n:Nat) (xs:List Value) (hown:w.ownsRow base e size v n xs) (c:Nat) :
  (Builtin.append_ #[t,t] ty #[v,.slice none 0 c]).run P w=.ok v w:=by
 rcases hown.2 with ⟨rfl,rfl⟩|⟨g,cap,cur,rfl,_,_,hnc,_⟩
 ·simp [Builtin.append_,run_underlying ht,sizeOf,typeInfo,hi,Builtin.lenOf,Builtin.firstCells]
 ·simp [Builtin.append_,run_underlying ht,sizeOf,typeInfo,hi,Builtin.lenOf,Builtin.firstCells,hnc,storeCells]
theorem run_appS (w:World) (base:Nat) (t ty e:TypeId) (i:TypeInfo) (z:Value) (size bytes:Nat) (ht:P.underlying t=some (.slice e)) (hi:P.info? e=some i) (hz:i.zero=some z)
  (hsize:i.size=size) (hby:i.bytes=bytes) (hzs:z.cells.size=size) (hsz:0<size)
  (v:Value) (n:Nat) (xs:List Value) (hown:w.ownsRow base e size v n xs)
  (xo:Option Addr) (m c:Nat) (news:List Value) (hxo:xo=none->m=0) (hl:news.length=m*size) (hnews:∀ad,xo=some ad->∀j u,news[j]?=some u->w.cell? (ad.add j)=some u) (h1:∀u ∈ news,u.oneCell'=true)
  (h63:n+m<=maxLen) (hbytes:(n+m)*bytes<=140737488355328) (hbase:base<=w.heap.size) :
  ∃v' w',(Builtin.append_ #[t,t] ty #[v,.slice xo m c]).run P w=.ok v' w'/\w'.ownsRow base e size v' (n+m) (xs++news)/\w.grownBy w' v.ownBlock /\
   (v'.ownBlock=v.ownBlock\/v'.ownBlock=some w.heap.size):=by
 cases xo with
 | none =>
  obtain rfl:=hxo rfl
  obtain rfl:news = []:=List.eq_nil_of_length_eq_zero (by simpa using hl)
  refine ⟨v,w,run_app_none w base t ty e i size ht hi v n xs hown c,by simpa using hown,⟨rfl,rfl,rfl,Nat.le_refl _,fun _ _ _=>rfl⟩,.inl rfl⟩
 | some a=>exact run_app w base t ty e i z size bytes ht hi hz hsize hby hzs hsz v n xs hown a m c news hl (hnews a rfl) h1 h63 hbytes hbase
theorem wpList_appS {w:World} {ops:Array Oper} {rest:List Oper} {o:Oper} {a:Act} {Q:Exit->Act->World->Prop} (hgd:o.guard=none) (s x:Operand) (t:TypeId)
  (ho:o.op=.call { callee:=.builtin .append,args:=#[s,x],argTypes:=#[t,t] })
  (base:Nat) (e:TypeId) (i:TypeInfo) (z:Value) (size bytes:Nat) (ht:P.underlying t=some (.slice e)) (hi:P.info? e=some i) (hz:i.zero=some z)
  (hsize:i.size=size) (hby:i.bytes=bytes) (hzs:z.cells.size=size) (hsz:0<size)
  (v:Value) (n:Nat) (xs:List Value) (hs:a.eval s=v) (hown:w.ownsRow base e size v n xs)
  (xo:Option Addr) (m c:Nat) (news:List Value) (hx:a.eval x=.slice xo m c) (hxo:xo=none->m=0) (hl:news.length=m*size) (hnews:∀ad,xo=some ad->∀j u,news[j]?=some u->w.cell? (ad.add j)=some u) (h1:∀u ∈ news,u.oneCell'=true)
  (h63:n+m<=maxLen) (hbytes:(n+m)*bytes<=140737488355328) (hbase:base<=w.heap.size)
  (h:∀v' w',w'.ownsRow base e size v' (n+m) (xs++news)->w.grownBy w' v.ownBlock->(v'.ownBlock=v.ownBlock\/v'.ownBlock=some w.heap.size)->wpList P ops Q rest (a.put o.dst v') w'):wpList P ops Q (o :: rest) a w:=by
 refine wpList_plain hgd fun K hK=>?_
 obtain ⟨v',w',hr,h2,h3,h4⟩:=run_appS w base t o.type e i z size bytes ht hi hz hsize hby hzs hsz v n xs hown xo m c news hxo hl hnews h1 h63 hbytes hbase
 unfold Oper.wp
 simp [execOp,ho,resolve,invoke,builtin,hs,hx,hr,Result.andThen]
 exact hK _ _ (h v' w' h2 h3 h4)
end App
namespace Rep
def IntsS (w:World) (S:Nat->Prop) (v:Value) (l:List Int):Prop:=Row 1 (fun b o (z:Int)=>S b/\w.cell? ⟨b,o,none⟩=.some (.int .i64 z)) v l
structure InsS {α:Type} (w:World) (S:Nat->Prop) (sub:Value->α->Prop) (bk o:Nat) (x:Ins α):Prop where
 op:w.cell? ⟨bk,o,none⟩=.some (.int .i64 x.op)
 a:w.cell? ⟨bk,o+1,none⟩=.some (.int .i64 x.a)
 b:w.cell? ⟨bk,o+2,none⟩=.some (.int .i64 x.b)
 n:w.cell? ⟨bk,o+3,none⟩=.some (.int .i64 x.n)
 labels:∃v,w.cell? ⟨bk,o+4,none⟩=.some v/\IntsS w S v x.labels
 body:∃v,w.cell? ⟨bk,o+5,none⟩=.some v/\sub v x.body
 els:∃v,w.cell? ⟨bk,o+6,none⟩=.some v/\sub v x.els
def AtS (w:World) (S:Nat->Prop):(d:Nat)->Value->IL d->Prop
 | 0,v,_=>∃o cap,v=.slice o 0 cap
 | d+1,v,l=>Row 7 (fun b o (x:Ins (IL d))=>S b/\InsS w S (AtS w S d) b o x) v l
theorem IntsS.at {w:World} {S:Nat->Prop} {v:Value} {l:List Int} (h:IntsS w S v l):Ints w v l:=Row.imp h fun _ _ _ _ h=>h.2
theorem AtS.at {w:World} {S:Nat->Prop}:∀(d:Nat) (v:Value) (l:IL d),AtS w S d v l->At w d v l
 | 0,_,_,h=>h
 | d+1,_,_,h=>Row.imp (α:=Ins (IL d)) h fun _ _ _ _ ⟨_,h⟩=>⟨h.op,h.a,h.b,h.n,let ⟨v,a,b⟩:=h.labels;⟨v,a,b.at⟩,let ⟨v,a,b⟩:=h.body;⟨v,a,AtS.at d v _ b⟩,let ⟨v,a,b⟩:=h.els;⟨v,a,AtS.at d v _ b⟩⟩
theorem cell_keep {w w':World} {S S':Nat->Prop} (hk:∀k,S k->S' k/\w'.heap[k]?=w.heap[k]?) {b o:Nat} {u:Value} (hb:S b) (h:w.cell? ⟨b,o,none⟩=.some u):w'.cell? ⟨b,o,none⟩=.some u :=
 (World.cell?_of_block (a:=⟨b,o,none⟩) (hk b hb).2).trans h
theorem IntsS.keep {w w':World} {S S':Nat->Prop} (hk:∀k,S k->S' k/\w'.heap[k]?=w.heap[k]?) {v:Value} {l:List Int} (h:IntsS w S v l):IntsS w' S' v l :=
 Row.imp h fun b _ _ _ h=>⟨(hk b h.1).1,cell_keep hk h.1 h.2⟩
theorem AtS.keep {w w':World} {S S':Nat->Prop} (hk:∀k,S k->S' k/\w'.heap[k]?=w.heap[k]?):∀(d:Nat) (v:Value) (l:IL d),AtS w S d v l->AtS w' S' d v l
 | 0,_,_,h=>h
 | d+1,_,_,h=>Row.imp (α:=Ins (IL d)) h fun b _ _ _ ⟨hb,h⟩=>⟨(hk b hb).1,cell_keep hk hb h.op,cell_keep hk hb h.a,cell_keep hk hb h.b,cell_keep hk hb h.n,let ⟨v,a,c⟩:=h.labels;⟨v,cell_keep hk hb a,c.keep hk⟩,let ⟨v,a,c⟩:=h.body;⟨v,cell_keep hk hb a,AtS.keep hk d v _ c⟩,let ⟨v,a,c⟩:=h.els;⟨v,cell_keep hk hb a,AtS.keep hk d v _ c⟩⟩
end Rep
theorem count_set {l:Array Bool} {i:Nat} (h:l.getD i true=false):(l.setIfInBounds i true).toList.count false+1=l.toList.count false:=by
 have hi:i<l.size:=by
  rcases Nat.lt_or_ge i l.size with h'|h'
  ·exact h'
  ·simp [Array.getD,Nat.not_lt.2 h'] at h
 have he:l[i]=false:=by simpa [Array.getD,hi] using h
 have hl:l.toList=l.toList.take i++false :: l.toList.drop (i+1):=by
  rw [<- he]
  have:i<l.toList.length:=by simpa using hi
  conv=>lhs;rw [<- List.take_append_drop i l.toList,List.drop_eq_getElem_cons this]
  simp
 have hs:(l.setIfInBounds i true).toList=l.toList.take i++true :: l.toList.drop (i+1):=by
  rw [Array.toList_setIfInBounds,List.set_eq_take_append_cons_drop,if_pos (by simpa using hi)]
 have e1:=congrArg (List.count false) hl
 have e2:=congrArg (List.count false) hs
 rw [List.count_append,List.count_cons_self] at e1
 rw [List.count_append,List.count_cons_of_ne (by simp)] at e2
 omega
theorem wpAny_inv {P:Program} {md:Region.Mode} {ops:Array Oper} {Q:Exit->Act->World->Prop} (Inv:Array Bool->Act->World->Prop)
  (hstep:∀listed i a w,i ∈ Region.ready md ops listed->Inv listed a w->wpOp P ops Q i (Inv (listed.setIfInBounds i true)) a w)
  (hdone:∀listed a w,Region.ready md ops listed = []->Inv listed a w->Q .normal a w) :
  ∀(fuel:Nat) (listed:Array Bool) (a:Act) (w:World),listed.toList.count false<=fuel->Inv listed a w->wpAny P md ops Q fuel listed a w:=by
 intro fuel
 induction fuel with
 | zero =>
  intro listed a w hc hI
  have hr:Region.ready md ops listed = []:=by
   cases hrr:Region.ready md ops listed with
   | nil=>rfl
   | cons i r =>
    have hm:i ∈ Region.ready md ops listed:=by rw [hrr];simp
    have:=count_set (mem_ready.1 hm).1
    omega
  exact ⟨hr,hdone _ _ _ hr hI⟩
 | succ fuel ih =>
  intro listed a w hc hI
  refine ⟨fun hr=>hdone _ _ _ hr hI,fun i hi=>?_⟩
  refine wpOp_mono (fun a' w' h=>ih _ a' w' ?_ h) (hstep listed i a w hi hI)
  have:=count_set (mem_ready.1 hi).1
  omega
theorem wp_region_inv {P:Program} {ops:Array Oper} {Q:Exit->Act->World->Prop} {id:Nat} {a:Act} {w:World} (Inv:Array Bool->Act->World->Prop) (hm:P.follows .mixedOrders=true)
  (hstep:∀listed i a w,i ∈ Region.ready .any ops listed->Inv listed a w->wpOp P ops Q i (Inv (listed.setIfInBounds i true)) a w)
  (hdone:∀listed a w,Region.ready .any ops listed = []->Inv listed a w->Q .normal a w)
  (h0:Inv (Array.replicate ops.size false) a { w with drawn:=w.drawn+1 }):(Code.region id ops true).wp P Q a w :=
 wp_region_any hm (wpAny_inv Inv hstep hdone _ _ _ _ (by simp) h0)
namespace Reg
def deps (o:Oper):List Nat:=(o.after.toList.filter (fun e=>Region.binds .any e)).map (·.on)
def depsAt (ops:Array Oper) (i:Nat):List Nat:=match ops[i]? with
 | some o=>deps o
 | none=>[]
def clos (ops:Array Oper):List Nat->Nat->List Nat
 | acc,0=>acc
 | acc,i+1=>clos ops (if acc.any (fun m=>(depsAt ops m).contains i) then i :: acc else acc) i
def tailOk (ops:Array Oper) (n:Nat):Bool :=
 decide (n<ops.size) && (List.range ops.size).all (fun i=>(depsAt ops i).all (fun j=>decide (j<i)) && (decide (i<n) || (List.range i).all (fun j=>(clos ops [i] i).contains j)))
def Closed (ops:Array Oper) (L:Array Bool):Prop:=∀i,L.getD i false=true->∀j ∈ depsAt ops i,L.getD j false=true
theorem clos_mem {ops:Array Oper} {L:Array Bool} {k:Nat} (hc:Closed ops L) (hk:∀j ∈ depsAt ops k,L.getD j false=true):∀(i:Nat) (acc:List Nat),(∀m ∈ acc,m=k\/L.getD m false=true)->∀m ∈ clos ops acc i,m=k\/L.getD m false=true
 | 0,acc,h=>h
 | i+1,acc,h=>by
  unfold clos
  refine clos_mem hc hk i _ ?_
  split
  ·rename_i ha
   intro m hm
   rcases List.mem_cons.1 hm with rfl|hm
   ·obtain ⟨q,hq,hqi⟩:=List.any_eq_true.1 ha
    have hqi':m ∈ depsAt ops q:=by simpa using hqi
    rcases h q hq with rfl|hL
    ·exact .inr (hk _ hqi')
    ·exact .inr (hc q hL _ hqi')
   ·exact h m hm
  ·exact h
theorem getD_set (L:Array Bool) (i j:Nat) (hi:i<L.size):(L.setIfInBounds i true).getD j false=if j=i then true else L.getD j false:=by
 by_cases h:j=i
 ·subst h
  rw [if_pos rfl]
  simp [Array.getD,hi]
 ·rw [if_neg h]
  simp only [Array.getD,Array.size_setIfInBounds]
  split
  ·rename_i hj
   exact Array.getElem_setIfInBounds_ne (xs:=L) hj (fun e=>h e.symm)
  ·rfl
theorem getD_false {L:Array Bool} {i:Nat} (h:L.getD i true=false):i<L.size/\L.getD i false=false:=by
 have hi:i<L.size:=by
  rcases Nat.lt_or_ge i L.size with h'|h'
  ·exact h'
  ·simp [Array.getD,Nat.not_lt.2 h'] at h
 refine ⟨hi,?_⟩
 simpa [Array.getD,hi] using h
structure Fr (a0:Act) (dst:Nat->Nat) (n:Nat) (a:Act):Prop where
 defers:a.defers=a0.defers
 size:a.tmps.size=a0.tmps.size
 rest:∀k,(∀i,i<n->dst i≠k)->a.tmps[k]?=a0.tmps[k]?
theorem Fr.eval {a0:Act} {dst:Nat->Nat} {n:Nat} {a:Act} (h:Fr a0 dst n a) (k:Nat) (hk:∀i,i<n->dst i≠k):a.eval (.tmp k)=a0.eval (.tmp k):=by
 show a.tmps.getD k undef=a0.tmps.getD k undef
 rw [Array.getD_eq_getD_getElem?,Array.getD_eq_getD_getElem?,h.rest k hk]
theorem Fr.put {a0:Act} {dst:Nat->Nat} {n i:Nat} {a:Act} (h:Fr a0 dst n a) (hi:i<n) (v:Value):Fr a0 dst n (a.put (some (dst i)) v):=by
 refine ⟨h.defers,?_,fun k hk=>?_⟩
 ·show (a.tmps.setIfInBounds (dst i) v).size=_
  rw [Array.size_setIfInBounds,h.size]
 ·show (a.tmps.setIfInBounds (dst i) v)[k]?=_
  rw [Array.getElem?_setIfInBounds_ne (hk i hi),h.rest k hk]
theorem Fr.mono {a0:Act} {dst:Nat->Nat} {n n':Nat} {a:Act} (h:Fr a0 dst n a) (hn:n<=n'):Fr a0 dst n' a:=⟨h.defers,h.size,fun k hk=>h.rest k fun i hi=>hk i (by omega)⟩
theorem put_eval_same {a:Act} {k:Nat} (v:Value) (hk:k<a.tmps.size):(a.put (some k) v).eval (.tmp k)=v:=by
 show (a.tmps.setIfInBounds k v).getD k undef=v
 simp [Array.getD,hk]
theorem put_eval_ne {a:Act} {k j:Nat} (v:Value) (hk:k≠j):(a.put (some k) v).eval (.tmp j)=a.eval (.tmp j):=by
 show (a.tmps.setIfInBounds k v).getD j undef=a.tmps.getD j undef
 rw [Array.getD_eq_getD_getElem?,Array.getD_eq_getD_getElem?,Array.getElem?_setIfInBounds_ne hk]
theorem ev_get {a:Act} {k:Nat} {v:Value} (h:a.eval (.tmp k)=v):a.tmps[k]?.getD undef=v:=by
 rw [<- Array.getD_eq_getD_getElem?];exact h
def dstOk (ops:Array Oper) (n:Nat) (dst:Nat->Nat) (size:Nat):Bool :=
 (List.range n).all fun i=>match ops[i]? with
  | some o=>o.dst == some (dst i) && o.guard.isNone && decide (dst i<size)
  | none=>false
theorem dst_ok {ops:Array Oper} {n:Nat} {dst:Nat->Nat} {size:Nat} (h:dstOk ops n dst size=true):∀i,i<n->∃o,ops[i]?=some o/\o.dst=some (dst i)/\o.guard=none/\dst i<size:=fun i hi=>by
 unfold dstOk at h
 have:=(List.all_eq_true.1 h) i (List.mem_range.2 hi)
 cases ho:ops[i]? with
 | none=>rw [ho] at this;cases this
 | some o =>
  rw [ho] at this
  simp only [Bool.and_eq_true,beq_iff_eq,decide_eq_true_eq,Option.isNone_iff_eq_none] at this
  exact ⟨o,rfl,this.1.1,this.1.2,this.2⟩
theorem step_k {P:Program} {o:Oper} {a:Act} {w:World} {R:Act->World->Prop} {Q:Exit->Act->World->Prop} (h:∀K:Act->World->Prop,(∀a w,R a w->K a w)->o.wp P a w K Q):o.wp P a w R Q:=h R (fun _ _ h=>h)
theorem Fr.lit {l:List Value} {ds:List Deferred} {n lo:Nat} {a:Act} (hF:Fr ⟨l.toArray,ds⟩ (fun i=>lo+i) n a) (hlo:lo+n<=l.length) :
  ∃x:List Value,x.length=n/\a=⟨(l.take lo++x++l.drop (lo+n)).toArray,ds⟩/\∀i,i<n->a.eval (.tmp (lo+i))=x.getD i undef:=by
 obtain ⟨t,d⟩:=a
 obtain ⟨h1,h2,h3⟩:=hF
 have h1':d=ds:=h1
 subst h1'
 have h2':t.size=l.length:=by simpa using h2
 refine ⟨(t.toList.drop lo).take n,by rw [List.length_take,List.length_drop,Array.length_toList];omega,?_,fun i hi=>?_⟩
 ·congr 1
  apply Array.ext'
  apply List.ext_getElem?
  intro k
  have hx:((t.toList.drop lo).take n).length=n:=by rw [List.length_take,List.length_drop,Array.length_toList];omega
  have hlt:(l.take lo).length=lo:=by rw [List.length_take];omega
  have h3k:=h3 k
  simp only [List.getElem?_toArray] at h3k
  rw [Array.getElem?_toList]
  show t[k]?=(l.take lo++(t.toList.drop lo).take n++l.drop (lo+n))[k]?
  rcases Nat.lt_or_ge k lo with hk|hk
  ·rw [List.append_assoc,List.getElem?_append_left (by omega),List.getElem?_take,if_pos hk]
   exact h3k fun i _=>by omega
  ·rcases Nat.lt_or_ge k (lo+n) with hk2|hk2
   ·rw [List.append_assoc,List.getElem?_append_right (by omega),List.getElem?_append_left (by omega),List.getElem?_take,if_pos (by omega),List.getElem?_drop,hlt,Array.getElem?_toList]
    congr 1;omega
   ·rw [List.getElem?_append_right (by rw [List.length_append];omega),List.getElem?_drop,List.length_append,hlt,hx,show lo+n+(k-(lo+n))=k by omega]
    exact h3k fun i _=>by omega
 ·show t.getD (lo+i) undef=_
  rw [Array.getD_eq_getD_getElem?,List.getD_eq_getElem?_getD,List.getElem?_take,if_pos hi,List.getElem?_drop,Array.getElem?_toList]
theorem Fr.lit2 {l:List Value} {ds:List Deferred} {n lo s:Nat} {a:Act} (hF:Fr ⟨l.toArray,ds⟩ (fun i=>if i<n then lo+i else s) (n+1) a) (hs:s<lo) (hlo:lo+n<=l.length) :
  ∃(y:Value) (x:List Value),x.length=n/\a=⟨(l.take s++y :: (l.take lo).drop (s+1)++x++l.drop (lo+n)).toArray,ds⟩/\a.eval (.tmp s)=y/\∀i,i<n->a.eval (.tmp (lo+i))=x.getD i undef:=by
 have hF':Fr ⟨(l.set s (a.eval (.tmp s))).toArray,ds⟩ (fun i=>lo+i) n a:=by
  refine ⟨hF.defers,by simpa using hF.size,fun k hk=>?_⟩
  by_cases he:k=s
  ·subst he
   have hsz:k<a.tmps.size:=by rw [hF.size];simp;omega
   simp only [List.getElem?_toArray]
   rw [List.getElem?_set_self (by omega),Array.getElem?_eq_getElem hsz]
   show _=some (a.tmps.getD k undef)
   simp [Array.getD,hsz]
  ·have:=hF.rest k fun i hi=>by
    show (if i<n then lo+i else s)≠k
    split
    ·exact hk i (by assumption)
    ·exact fun e=>he e.symm
   rw [this]
   simp only [List.getElem?_toArray]
   rw [List.getElem?_set_ne (fun e=>he e.symm)]
 obtain ⟨x,hx,ha,hev⟩:=Fr.lit hF' (by rw [List.length_set];exact hlo)
 refine ⟨_,x,hx,?_,rfl,hev⟩
 refine ha.trans ?_
 congr 2
 rw [List.drop_set_of_lt (by omega)]
 congr 2
 rw [List.take_set,List.set_eq_take_append_cons_drop,if_pos (by rw [List.length_take];omega),List.take_take,Nat.min_eq_left (by omega)]
section
variable {P:Program} {ops:Array Oper} {Q:Exit->Act->World->Prop} {id:Nat} {a0:Act} {w0:World}
def Ahead (ops:Array Oper) (a0:Act) (w0:World) (n:Nat) (dst:Nat->Nat) (G:Nat->Value->World->Prop) (L:Array Bool) (a:Act) (w:World):Prop :=
 (∀k,n<=k->L.getD k false=false)/\Fr a0 dst n a/\Below w0.heap.size w0 w/\∀i,i<n->L.getD i false=true->G i (a.eval (.tmp (dst i))) w
def Behind (P:Program) (ops:Array Oper) (Q:Exit->Act->World->Prop) (n:Nat) (L:Array Bool) (a:Act) (w:World):Prop :=
 ∃k,n<=k/\(∀i,i<k->L.getD i false=true)/\(∀i,k<=i->L.getD i false=false)/\wpList P ops Q (ops.toList.drop k) a w
theorem depsAt_some {o:Oper} {i:Nat} (h:ops[i]?=some o):depsAt ops i=deps o:=by unfold depsAt;rw [h]
theorem ready_deps {L:Array Bool} {i:Nat} (h:i ∈ Region.ready .any ops L):L.getD i true=false/\∃o,ops[i]?=some o/\∀j ∈ deps o,L.getD j false=true:=by
 obtain ⟨h1,o,ho,hd⟩:=mem_ready.1 h
 refine ⟨h1,o,ho,fun j hj=>?_⟩
 obtain ⟨e,he,rfl⟩:=List.mem_map.1 hj
 obtain ⟨he1,he2⟩:=List.mem_filter.1 he
 exact hd e (by simpa using he1) he2
theorem ready_of {L:Array Bool} {i:Nat} {o:Oper} (ho:ops[i]?=some o) (h1:L.getD i true=false) (hd:∀j ∈ deps o,L.getD j false=true):i ∈ Region.ready .any ops L:=by
 refine mem_ready.2 ⟨h1,o,ho,fun e he hb=>hd _ ?_⟩
 exact List.mem_map.2 ⟨e,List.mem_filter.2 ⟨by simpa using he,hb⟩,rfl⟩
theorem not_ready {L:Array Bool} {n:Nat} (hT:tailOk ops n=true) (hsz:L.size=ops.size) (hr:Region.ready .any ops L = []) (k:Nat) (hk:k<ops.size):L.getD k false=true:=by
 have hlow:∀i,i<ops.size->∀j ∈ depsAt ops i,j<i:=fun i hi j hj=>by
  unfold tailOk at hT
  rw [Bool.and_eq_true,List.all_eq_true] at hT
  have:=hT.2 i (List.mem_range.2 hi)
  rw [Bool.and_eq_true,List.all_eq_true] at this
  exact of_decide_eq_true (this.1 j hj)
 induction k using Nat.strongRecOn with
 | _ k ih =>
  cases hL:L.getD k false with
  | true=>rfl
  | false =>
   obtain ⟨o,ho⟩:∃o,ops[k]?=some o:=⟨_,Array.getElem?_eq_getElem hk⟩
   have hm:k ∈ Region.ready .any ops L:=by
    refine ready_of ho ?_ fun j hj=>?_
    ·have:k<L.size:=by omega
     simp only [Array.getD,this] at hL ⊢
     exact hL
    ·have hj':j ∈ depsAt ops k:=by rw [depsAt_some ho];exact hj
     have:=hlow k hk j hj'
     exact ih j this (by omega)
   rw [hr] at hm
   cases hm
theorem wp_region_two (n:Nat) (dst:Nat->Nat) (G:Nat->Value->World->Prop) (hm:P.follows .mixedOrders=true) (hT:tailOk ops n=true)
  (hinj:∀i j,i<n->j<n->dst i=dst j->i=j)
  (hdst:∀i,i<n->∃o,ops[i]?=some o/\o.dst=some (dst i)/\o.guard=none/\dst i<a0.tmps.size)
  (hstab:∀i v w w',i<n->G i v w->Below w.heap.size w w'->G i v w')
  (hstep:∀i o a w,i<n->ops[i]?=some o->Fr a0 dst n a->Below w0.heap.size w0 w->(∀j ∈ deps o,G j (a.eval (.tmp (dst j))) w)->o.wp P a w (fun a' w'=>∃v,a'=a.put o.dst v/\Below w.heap.size w w'/\G i v w') Q)
  (htail:∀a w,Fr a0 dst n a->Below w0.heap.size w0 w->(∀i,i<n->G i (a.eval (.tmp (dst i))) w)->wpList P ops Q (ops.toList.drop n) a w) :
  (Code.region id ops true).wp P Q a0 w0:=by
 have hT2:=hT
 unfold tailOk at hT2
 rw [Bool.and_eq_true,List.all_eq_true,decide_eq_true_eq] at hT2
 obtain ⟨hn,hT2⟩:=hT2
 have hlow:∀i,i<ops.size->∀j ∈ depsAt ops i,j<i:=fun i hi j hj=>by
  have:=hT2 i (List.mem_range.2 hi)
  rw [Bool.and_eq_true,List.all_eq_true] at this
  exact of_decide_eq_true (this.1 j hj)
 have hbig:∀(L:Array Bool) i,n<=i->i<ops.size->Closed ops L->(∀j ∈ depsAt ops i,L.getD j false=true)->∀j,j<i->L.getD j false=true:=fun L i hi hs hc hd j hj=>by
  have:=hT2 i (List.mem_range.2 hs)
  rw [Bool.and_eq_true,Bool.or_eq_true,decide_eq_true_eq] at this
  rcases this.2 with h|h
  ·omega
  ·have hjm:j ∈ clos ops [i] i:=by simpa using (List.all_eq_true.1 h) j (List.mem_range.2 hj)
   rcases clos_mem hc hd i [i] (fun m hm=>.inl (List.mem_singleton.1 hm)) j hjm with h|h
   ·omega
   ·exact h
 refine wp_region_inv (fun L a w=>L.size=ops.size/\Closed ops L/\(Ahead ops a0 w0 n dst G L a w\/Behind P ops Q n L a w)) hm ?_ ?_ ?_
 ·rintro L i a w hi ⟨hsz,hc,hph⟩
  obtain ⟨hLi,o,ho,hd⟩:=ready_deps hi
  obtain ⟨hiL,hLf⟩:=getD_false hLi
  have hd':∀j ∈ depsAt ops i,L.getD j false=true:=by rw [depsAt_some ho];exact hd
  have hsz':(L.setIfInBounds i true).size=ops.size:=by rw [Array.size_setIfInBounds,hsz]
  have hc':Closed ops (L.setIfInBounds i true):=fun m hm j hj=>by
   rw [getD_set L i _ hiL] at hm ⊢
   split
   ·rfl
   ·by_cases he:m=i
    ·subst he;exact hd' j hj
    ·rw [if_neg he] at hm;exact hc m hm j hj
  have low:∀k,n<=k->(∀j,j<k->L.getD j false=true)->(∀j,k<=j->L.getD j false=false)->n<=i->i=k:=fun k hnk hk1 hk2 hni=>by
   have h1:=hbig L i hni (by omega) hc hd'
   rcases Nat.lt_trichotomy i k with h|h|h
   ·rw [hk1 i h] at hLf;cases hLf
   ·exact h
   ·have:=h1 k h;rw [hk2 k (Nat.le_refl _)] at this;cases this
  have onBehind:∀k,k=i->n<=k->(∀j,j<k->L.getD j false=true)->(∀j,k<=j->L.getD j false=false)->wpList P ops Q (ops.toList.drop k) a w->wpOp P ops Q i (fun a w=>(L.setIfInBounds i true).size=ops.size/\Closed ops (L.setIfInBounds i true)/\(Ahead ops a0 w0 n dst G (L.setIfInBounds i true) a w\/Behind P ops Q n (L.setIfInBounds i true) a w)) a w:=by
   rintro k rfl hnk hk1 hk2 hwp
   have hks:k<ops.size:=by omega
   have hcons:ops.toList.drop k=o :: ops.toList.drop (k+1):=by
    rw [List.drop_eq_getElem_cons (by simpa using hks)]
    congr 1
    have:=Array.getElem?_eq_getElem hks
    rw [ho] at this
    simpa using (Option.some.inj this).symm
   rw [hcons] at hwp
   have up:∀a w,wpList P ops Q (ops.toList.drop (k+1)) a w->(L.setIfInBounds k true).size=ops.size/\Closed ops (L.setIfInBounds k true)/\(Ahead ops a0 w0 n dst G (L.setIfInBounds k true) a w\/Behind P ops Q n (L.setIfInBounds k true) a w):=fun a w h =>
    ⟨hsz',hc',.inr ⟨k+1,by omega,fun j hj=>by
     rw [getD_set L k _ hiL]
     split
     ·rfl
     ·exact hk1 j (by omega),fun j hj=>by
     rw [getD_set L k _ hiL,if_neg (by omega)]
     exact hk2 j (by omega),h⟩⟩
   unfold wpOp
   rw [ho]
   unfold wpList at hwp
   show ite _ _ _
   split
   ·rename_i hw
    rw [if_pos hw] at hwp
    exact hwp.imp (Oper.wp_mono up) (fun h=>h)
   ·rename_i hw
    rw [if_neg hw] at hwp
    exact up _ _ hwp
  rcases hph with ⟨hk,hF,hB,hG⟩|⟨k,hnk,hk1,hk2,hwp⟩
  ·by_cases hin:i<n
   ·obtain ⟨o',ho',hod,hog,hos⟩:=hdst i hin
    have:o'=o:=by rw [ho] at ho';exact (Option.some.inj ho').symm
    subst this
    have hs:=hstep i o' a w hin ho hF hB (fun j hj=>hG j (by have:=hlow i (by omega) j (by rw [depsAt_some ho];exact hj);omega) (hd j hj))
    unfold wpOp
    rw [ho]
    show ite _ _ _
    rw [if_pos (by simp [Region.wanted,hog])]
    refine .inl (Oper.wp_mono ?_ hs)
    rintro a' w' ⟨v,rfl,hBw,hGv⟩
    have hos':dst i<a.tmps.size:=by rw [hF.size];exact hos
    refine ⟨hsz',hc',.inl ⟨fun k hnk=>?_,by rw [hod];exact hF.put hin v,?_,fun j hj hLj=>?_⟩⟩
    ·rw [getD_set L i _ hiL,if_neg (by omega)];exact hk k hnk
    ·exact hB.trans (hBw.mono hB.size)
    ·rw [hod]
     by_cases he:j=i
     ·subst he;rw [put_eval_same v hos'];exact hGv
     ·rw [getD_set L i _ hiL,if_neg he] at hLj
      rw [put_eval_ne v (fun e=>he (hinj i j hin hj e).symm)]
      exact hstab j _ w w' hj (hG j hj hLj) hBw
   ·have h1:=hbig L i (by omega) (by omega) hc hd'
    have hin':n=i:=by
     rcases Nat.lt_or_ge n i with h|h
     ·have:=h1 n h;rw [hk n (Nat.le_refl _)] at this;cases this
     ·omega
    refine onBehind n hin' (Nat.le_refl _) (fun j hj=>h1 j (by omega)) hk (htail a w hF hB fun j hj=>hG j hj (h1 j (by omega)))
  ·rcases Nat.lt_or_ge i n with h|h
   ·rw [hk1 i (by omega)] at hLf;cases hLf
   ·exact onBehind k (low k hnk hk1 hk2 h).symm hnk hk1 hk2 hwp
 ·rintro L a w hr ⟨hsz,hc,⟨hk,_⟩|⟨k,hnk,hk1,hk2,hwp⟩⟩
  ·have:=not_ready hT hsz hr n hn
   rw [hk n (Nat.le_refl _)] at this;cases this
  ·have:ops.size<=k:=by
    rcases Nat.lt_or_ge k ops.size with h|h
    ·have:=not_ready hT hsz hr k h
     rw [hk2 k (Nat.le_refl _)] at this;cases this
    ·exact h
   rw [List.drop_eq_nil_of_le (by simpa using this)] at hwp
   exact hwp
 ·have hf:∀k,(Array.replicate ops.size false).getD k false=false:=fun k=>by
   simp [Array.getD]
  refine ⟨by simp,fun i hi=>?_,.inl ⟨fun k _=>hf k,⟨rfl,rfl,fun _ _=>rfl⟩,⟨rfl,rfl,rfl,Nat.le_refl _,fun _ _=>rfl⟩,fun i _ hL=>?_⟩⟩
  ·rw [hf] at hi;cases hi
  ·rw [hf] at hL;cases hL
end
end Reg
end Go.Proofs.Ytkflfohoinbenaa
namespace Go.Proofs.Ytkflfohoinbenaa
open Go.RowKit Lx Pz
set_option linter.unusedVariables false
namespace Pz
section
variable {w0 w w':World} {p:Nat} {L:List Tk} {vL:Value} {en:Int} {i:Nat}
structure But (p:Nat) (w w':World):Prop where
 os:w'.os=w.os
 tape:w'.tape=w.tape
 output:w'.output=w.output
 size:w.heap.size<=w'.heap.size
 block:∀k,k<w.heap.size->k≠p->w'.heap[k]?=w.heap[k]?
theorem But.refl (p:Nat) (w:World):But p w w:=⟨rfl,rfl,rfl,Nat.le_refl _,fun _ _ _=>rfl⟩
theorem But.of (p:Nat) (hb:Below w.heap.size w w'):But p w w':=⟨hb.os,hb.tape,hb.output,hb.size,fun k hk _=>hb.block k hk⟩
theorem But.trans {u:World} (h:But p w w') (h':But p w' u):But p w u :=
 ⟨h'.os.trans h.os,h'.tape.trans h.tape,h'.output.trans h.output,Nat.le_trans h.size h'.size,fun k hk hp=>(h'.block k (Nat.lt_of_lt_of_le hk h.size) hp).trans (h.block k hk hp)⟩
theorem But.set (p j:Nat) (w:World) (v:Value):But p w (w.setCell ⟨p,j,none⟩ v) :=
 ⟨rfl,rfl,rfl,by simp,fun k hk hp=>Below.heap_setCell _ _ _ _ (fun e=>hp (by rw [e]))⟩
end
end Pz
end Go.Proofs.Ytkflfohoinbenaa
namespace Go.Proofs.Ytkflfohoinbenaa
open Go.RowKit Lx
set_option linter.unusedVariables false
namespace Lx
theorem TkAt.len {w:World} {v:Value} {l:List Tk} (h:TkAt w v l):∃o c,v=.slice o l.length c:=by
 rcases h with ⟨h1,h2⟩|⟨g,c,h1,_⟩
 ·exact ⟨none,0,by rw [h1,h2];rfl⟩
 ·exact ⟨_,_,h1⟩
theorem TkAt.some {w:World} {v:Value} {l:List Tk} (h:TkAt w v l) (h0:0<l.length):∃g c,v=.slice (some ⟨g,0,none⟩) l.length c/\∀i t,l[i]?=some t->∀j u,(cs4 t)[j]?=some u->w.cell? ⟨g,i*4+j,none⟩=some u:=by
 rcases h with ⟨h1,h2⟩|h
 ·subst h2;cases h0
 ·exact h
end Lx
end Go.Proofs.Ytkflfohoinbenaa
namespace Go.Proofs.Ytkflfohoinbenaa
open Go.RowKit Lx Pz
set_option linter.unusedVariables false
namespace Pz
end Pz
namespace Pz
end Pz
namespace Pz
end Pz
namespace Pz
theorem put_heap {u:World} {b:Nat} {T:TypeId} {cs vs:Array Value} (h:u.heap[b]?=some (.cells cs T (0,0))) (hc:cs.size=vs.size):(u.setCells b 0 vs.toList).heap[b]?=some (.cells vs T (0,0)):=by
 rw [cells_heap b T vs.toList 0 u cs h (by simp;omega)]
 have hd:List.drop vs.size cs.toList = []:=List.drop_eq_nil_of_le (by simp [hc])
 simp [hd]
theorem put_there {u:World} {b:Nat} {T:TypeId} {cs:Array Value} (h:u.heap[b]?=some (.cells cs T (0,0))):u.there b 0 cs.size:=fun j hj=>by
 refine ⟨?_,?_⟩
 ·unfold World.cell?;rw [h,Nat.zero_add]
  show (cs[j]?).isSome=true
  rw [Array.getElem?_eq_getElem hj];rfl
 ·unfold World.frozen?;rw [h];simp
theorem put_cell {W:World} {b:Nat} {T:TypeId} {vs:Array Value} (h:W.heap[b]?=some (.cells vs T (0,0))) (j:Nat) (v:Value) (hv:vs[j]?=some v):W.cell? ⟨b,j,none⟩=some v:=by
 unfold World.cell?;rw [h];exact hv
end Pz
end Go.Proofs.Ytkflfohoinbenaa
namespace Go.Proofs.Ytkflfohoinbenaa
open Go.RowKit Lx Pz Rep
set_option linter.unusedVariables false
namespace Pz
def PaC (p:Nat) (w:World):Nat->Nat->Nat->Value->Prop
 | 0,_,_,_=>False
 | d+1,b,o,t=>p<=b/\∃k x n es a v,t=nd k x e0 n es [] a/\w.cell? ⟨b,o,none⟩=some (.int .i64 k)/\w.cell? ⟨b,o+1,none⟩=some (.string x)/\w.cell? ⟨b,o+2,none⟩=some (.int .i64 n)/\w.cell? ⟨b,o+3,none⟩=some v/\w.cell? ⟨b,o+4,none⟩=some (.int .i64 a)/\Row 5 (PaC p w d) v es
def TyC (p:Nat) (w:World):Nat->Nat->Nat->Value->Prop
 | 0,_,_,_=>False
 | d+1,b,o,t=>p<=b/\∃k x n es v,t=nd k x e0 n es [] 0/\w.cell? ⟨b,o,none⟩=some (.int .i64 k)/\w.cell? ⟨b,o+1,none⟩=some (.string x)/\w.cell? ⟨b,o+2,none⟩=some (.int .i64 n)/\w.cell? ⟨b,o+3,none⟩=some v/\Row 4 (TyC p w d) v es
def ExC (p:Nat) (w:World):Nat->Nat->Nat->Value->Prop
 | 0,_,_,_=>False
 | d+1,b,o,t=>p<=b/\∃k x y n es ps a v u,t=nd k x y n es ps a/\w.cell? ⟨b,o,none⟩=some (.int .i64 k)/\w.cell? ⟨b,o+1,none⟩=some (.string x)/\w.cell? ⟨b,o+2,none⟩=some (.string y)/\w.cell? ⟨b,o+3,none⟩=some (.int .i64 n)/\w.cell? ⟨b,o+4,none⟩=some v/\w.cell? ⟨b,o+5,none⟩=some u/\w.cell? ⟨b,o+6,none⟩=some (.int .i64 a)/\Row 7 (ExC p w d) v es/\Row 5 (PaC p w d) u ps
section
variable {p:Nat} {w w':World}
def Abv (p:Nat) (w w':World):Prop:=∀k,p<=k->k<w.heap.size->w'.heap[k]?=w.heap[k]?
theorem cell_but (hb:Abv p w w') {b o:Nat} {v:Value} (hp:p<=b) (h:w.cell? ⟨b,o,none⟩=some v):w'.cell? ⟨b,o,none⟩=some v:=by
 have hl:b<w.heap.size:=World.block_lt_of_cell? _ _ h
 unfold World.cell? at h ⊢
 rw [hb b hp hl];exact h
theorem PaC.but (hb:Abv p w w'):∀(d b o:Nat) (t:Value),PaC p w d b o t->PaC p w' d b o t
 | 0,_,_,_,h=>h
 | d+1,b,o,t,⟨hp,k,x,n,es,a,v,h0,h1,h2,h3,h4,h5,h6⟩ =>
  ⟨hp,k,x,n,es,a,v,h0,cell_but hb hp h1,cell_but hb hp h2,cell_but hb hp h3,cell_but hb hp h4,cell_but hb hp h5,Row.imp h6 fun b o t _ h=>PaC.but hb d b o t h⟩
theorem TyC.but (hb:Abv p w w'):∀(d b o:Nat) (t:Value),TyC p w d b o t->TyC p w' d b o t
 | 0,_,_,_,h=>h
 | d+1,b,o,t,⟨hp,k,x,n,es,v,h0,h1,h2,h3,h4,h5⟩ =>
  ⟨hp,k,x,n,es,v,h0,cell_but hb hp h1,cell_but hb hp h2,cell_but hb hp h3,cell_but hb hp h4,Row.imp h5 fun b o t _ h=>TyC.but hb d b o t h⟩
theorem ExC.but (hb:Abv p w w'):∀(d b o:Nat) (t:Value),ExC p w d b o t->ExC p w' d b o t
 | 0,_,_,_,h=>h
 | d+1,b,o,t,⟨hp,k,x,y,n,es,ps,a,v,u,h0,h1,h2,h3,h4,h5,h6,h7,h8,h9⟩ =>
  ⟨hp,k,x,y,n,es,ps,a,v,u,h0,cell_but hb hp h1,cell_but hb hp h2,cell_but hb hp h3,cell_but hb hp h4,cell_but hb hp h5,cell_but hb hp h6,cell_but hb hp h7,Row.imp h8 fun b o t _ h=>ExC.but hb d b o t h,Row.imp h9 fun b o t _ h=>PaC.but hb d b o t h⟩
theorem PaC.up:∀(d b o:Nat) (t:Value),PaC p w d b o t->PaC p w (d+1) b o t
 | 0,_,_,_,h=>False.elim h
 | d+1,b,o,t,⟨hp,k,x,n,es,a,v,h0,h1,h2,h3,h4,h5,h6⟩=>⟨hp,k,x,n,es,a,v,h0,h1,h2,h3,h4,h5,Row.imp h6 fun b o t _ h=>PaC.up d b o t h⟩
theorem TyC.up:∀(d b o:Nat) (t:Value),TyC p w d b o t->TyC p w (d+1) b o t
 | 0,_,_,_,h=>False.elim h
 | d+1,b,o,t,⟨hp,k,x,n,es,v,h0,h1,h2,h3,h4,h5⟩=>⟨hp,k,x,n,es,v,h0,h1,h2,h3,h4,Row.imp h5 fun b o t _ h=>TyC.up d b o t h⟩
theorem ExC.up:∀(d b o:Nat) (t:Value),ExC p w d b o t->ExC p w (d+1) b o t
 | 0,_,_,_,h=>False.elim h
 | d+1,b,o,t,⟨hp,k,x,y,n,es,ps,a,v,u,h0,h1,h2,h3,h4,h5,h6,h7,h8,h9⟩=>⟨hp,k,x,y,n,es,ps,a,v,u,h0,h1,h2,h3,h4,h5,h6,h7,Row.imp h8 fun b o t _ h=>ExC.up d b o t h,Row.imp h9 fun b o t _ h=>PaC.up d b o t h⟩
theorem up_le {F:Nat->Nat->Nat->Value->Prop} (hF:∀d b o t,F d b o t->F (d+1) b o t) {d e:Nat} (h:d<=e) {b o:Nat} {t:Value} (hx:F d b o t):F e b o t:=by
 induction h with
 | refl=>exact hx
 | step _ ih=>exact hF _ _ _ _ ih
end
def PaV (p d:Nat) (w:World) (t:Value) (v:Value):Prop:=∃k x n es a u,t=nd k x e0 n es [] a/\v=.agg #[.int .i64 k,.string x,.int .i64 n,u,.int .i64 a]/\Row 5 (PaC p w d) u es
def TyV (p d:Nat) (w:World) (t:Value) (v:Value):Prop:=∃k x n es u,t=nd k x e0 n es [] 0/\v=.agg #[.int .i64 k,.string x,.int .i64 n,u]/\Row 4 (TyC p w d) u es
def ExV (p d:Nat) (w:World) (t:Value) (v:Value):Prop:=∃k x y n es ps a u z,t=nd k x y n es ps a/\v=.agg #[.int .i64 k,.string x,.string y,.int .i64 n,u,z,.int .i64 a]/\Row 7 (ExC p w d) u es/\Row 5 (PaC p w d) z ps
section
variable {p d:Nat} {w w':World} {t v:Value}
theorem PaV.but (hb:Abv p w w') (h:PaV p d w t v):PaV p d w' t v:=by
 obtain ⟨k,x,n,es,a,u,h0,h1,h2⟩:=h
 exact ⟨k,x,n,es,a,u,h0,h1,Row.imp h2 fun b o t _ h=>PaC.but hb d b o t h⟩
theorem TyV.but (hb:Abv p w w') (h:TyV p d w t v):TyV p d w' t v:=by
 obtain ⟨k,x,n,es,u,h0,h1,h2⟩:=h
 exact ⟨k,x,n,es,u,h0,h1,Row.imp h2 fun b o t _ h=>TyC.but hb d b o t h⟩
theorem ExV.but (hb:Abv p w w') (h:ExV p d w t v):ExV p d w' t v:=by
 obtain ⟨k,x,y,n,es,ps,a,u,z,h0,h1,h2,h3⟩:=h
 exact ⟨k,x,y,n,es,ps,a,u,z,h0,h1,Row.imp h2 fun b o t _ h=>ExC.but hb d b o t h,Row.imp h3 fun b o t _ h=>PaC.but hb d b o t h⟩
theorem PaV.up (h:PaV p d w t v) {e:Nat} (he:d<=e):PaV p e w t v:=by
 obtain ⟨k,x,n,es,a,u,h0,h1,h2⟩:=h
 exact ⟨k,x,n,es,a,u,h0,h1,Row.imp h2 fun b o t _ h=>up_le (F:=PaC p w) PaC.up he h⟩
theorem TyV.up (h:TyV p d w t v) {e:Nat} (he:d<=e):TyV p e w t v:=by
 obtain ⟨k,x,n,es,u,h0,h1,h2⟩:=h
 exact ⟨k,x,n,es,u,h0,h1,Row.imp h2 fun b o t _ h=>up_le (F:=TyC p w) TyC.up he h⟩
theorem ExV.up (h:ExV p d w t v) {e:Nat} (he:d<=e):ExV p e w t v:=by
 obtain ⟨k,x,y,n,es,ps,a,u,z,h0,h1,h2,h3⟩:=h
 exact ⟨k,x,y,n,es,ps,a,u,z,h0,h1,Row.imp h2 fun b o t _ h=>up_le (F:=ExC p w) ExC.up he h,Row.imp h3 fun b o t _ h=>up_le (F:=PaC p w) PaC.up he h⟩
end
theorem Abv.but {p q:Nat} {w w':World} (h:But q w w') (hq:q<p):Abv p w w':=fun k hk hl=>h.block k hl (by omega)
theorem Abv.of {p:Nat} {w w':World} (h:Below w.heap.size w w'):Abv p w w':=fun k _ hl=>h.block k hl
theorem PaC.lo {p q:Nat} {w:World} (hq:q<=p):∀(d b o:Nat) (t:Value),PaC p w d b o t->PaC q w d b o t
 | 0,_,_,_,h=>h
 | d+1,b,o,t,⟨hp,k,x,n,es,a,v,h0,h1,h2,h3,h4,h5,h6⟩=>⟨Nat.le_trans hq hp,k,x,n,es,a,v,h0,h1,h2,h3,h4,h5,Row.imp h6 fun b o t _ h=>PaC.lo hq d b o t h⟩
theorem TyC.lo {p q:Nat} {w:World} (hq:q<=p):∀(d b o:Nat) (t:Value),TyC p w d b o t->TyC q w d b o t
 | 0,_,_,_,h=>h
 | d+1,b,o,t,⟨hp,k,x,n,es,v,h0,h1,h2,h3,h4,h5⟩=>⟨Nat.le_trans hq hp,k,x,n,es,v,h0,h1,h2,h3,h4,Row.imp h5 fun b o t _ h=>TyC.lo hq d b o t h⟩
theorem ExC.lo {p q:Nat} {w:World} (hq:q<=p):∀(d b o:Nat) (t:Value),ExC p w d b o t->ExC q w d b o t
 | 0,_,_,_,h=>h
 | d+1,b,o,t,⟨hp,k,x,y,n,es,ps,a,v,u,h0,h1,h2,h3,h4,h5,h6,h7,h8,h9⟩=>⟨Nat.le_trans hq hp,k,x,y,n,es,ps,a,v,u,h0,h1,h2,h3,h4,h5,h6,h7,Row.imp h8 fun b o t _ h=>ExC.lo hq d b o t h,Row.imp h9 fun b o t _ h=>PaC.lo hq d b o t h⟩
theorem PaV.lo {p q d:Nat} {w:World} {t v:Value} (h:PaV p d w t v) (hq:q<=p):PaV q d w t v:=by
 obtain ⟨k,x,n,es,a,u,h0,h1,h2⟩:=h
 exact ⟨k,x,n,es,a,u,h0,h1,Row.imp h2 fun b o t _ h=>PaC.lo hq d b o t h⟩
theorem TyV.lo {p q d:Nat} {w:World} {t v:Value} (h:TyV p d w t v) (hq:q<=p):TyV q d w t v:=by
 obtain ⟨k,x,n,es,u,h0,h1,h2⟩:=h
 exact ⟨k,x,n,es,u,h0,h1,Row.imp h2 fun b o t _ h=>TyC.lo hq d b o t h⟩
theorem ExV.lo {p q d:Nat} {w:World} {t v:Value} (h:ExV p d w t v) (hq:q<=p):ExV q d w t v:=by
 obtain ⟨k,x,y,n,es,ps,a,u,z,h0,h1,h2,h3⟩:=h
 exact ⟨k,x,y,n,es,ps,a,u,z,h0,h1,Row.imp h2 fun b o t _ h=>ExC.lo hq d b o t h,Row.imp h3 fun b o t _ h=>PaC.lo hq d b o t h⟩
theorem row_nil {α:Type} (c:Nat) (f:Nat->Nat->α->Prop):Row c f (.slice none 0 0) []:=⟨by simp,.inl ⟨rfl,none,0,rfl⟩⟩
end Pz
end Go.Proofs.Ytkflfohoinbenaa
namespace Go.Proofs.Ytkflfohoinbenaa
open Go.RowKit Lx Pz
set_option linter.unusedVariables false
namespace Pz
end Pz
end Go.Proofs.Ytkflfohoinbenaa
namespace Go.Proofs.Ytkflfohoinbenaa
open Go.RowKit Lx Pz Rep
set_option linter.unusedVariables false
namespace Pz
theorem cells_ne (g k:Nat) (hk:k≠g):∀(vs:List Value) (o:Nat) (u:World),(u.setCells g o vs).heap[k]?=u.heap[k]?
 | [],_,_=>rfl
 | v :: r,o,u=>by
  rw [World.setCells,cells_ne g k hk r (o+1)]
  exact Below.heap_setCell u ⟨g,o,none⟩ _ _ hk
section
variable {w0 w u u':World} {p:Nat} {L:List Tk} {vL:Value} {en:Int} {T:TypeId} {z:Array Value} {i j:Nat}
end
end Pz
namespace Pz
def exO (B:Nat) (t v:Value) (w:World):Prop:=∃d,ExV B d w t v
def paO (B:Nat) (t v:Value) (w:World):Prop:=∃d,PaV B d w t v
def tyO (B:Nat) (t v:Value) (w:World):Prop:=∃d,TyV B d w t v
abbrev zTy:Array Value:=#[.int .i64 0,.string ⟨#[]⟩,.int .i64 0,.slice none 0 0]
end Pz
namespace Pz
end Pz
set_option linter.unusedVariables false
end Go.Proofs.Ytkflfohoinbenaa
