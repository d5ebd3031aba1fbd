/- Texts that the claim needs. -/
import Derived.Test.YtlcpagiljfpbpaaGreatDoorRows
import Derived.WalkKit
import Derived.WalkSpells
import Derived.WalkSmall
import Derived.BigQuiet
import Derived.Deep.QuietTactic
import Derived.ProofKit
import Derived.OpenShut
import Derived.Lib.SmallJoins
import Derived.Deep.RegionWith
import Derived.Deep.CutRange
import Derived.Deep.Cut
namespace Go.Proofs.YtlcpagiljfpbpaaGreatDoor
open Go.RowKit
namespace Rep
def Row {α:Type} (size:Nat) (f:Nat->Nat->α->Prop) (v:Value) (l:List α):Prop :=
 l.length<=9223372036854775807/\((l = []/\∃o cap,v=.slice o 0 cap)\/∃b off cap,v=.slice (some ⟨b,off,none⟩) l.length cap/\∀(i:Nat) (x:α),l[i]?=some x->f b (off+i*size) x)
theorem Row.len {α:Type} {size:Nat} {f:Nat->Nat->α->Prop} {v:Value} {l:List α} (h:Row size f v l):∃o cap,v=.slice o l.length cap:=by
 rcases h with ⟨_,⟨rfl,o,cap,rfl⟩|⟨b,off,cap,rfl,_⟩⟩
 ·exact ⟨o,cap,rfl⟩
 ·exact ⟨_,cap,rfl⟩
theorem Row.some {α:Type} {size:Nat} {f:Nat->Nat->α->Prop} {v:Value} {l:List α} (h:Row size f v l) (h0:0<l.length):∃b off cap,v=.slice (some ⟨b,off,none⟩) l.length cap/\∀(i:Nat) (x:α),l[i]?=some x->f b (off+i*size) x:=by
 rcases h with ⟨_,⟨rfl,_⟩|h⟩
 ·exact absurd h0 (by simp)
 ·exact h
theorem Row.imp {α:Type} {size:Nat} {f g:Nat->Nat->α->Prop} {v:Value} {l:List α} (h:Row size f v l) (hfg:∀b o x,x ∈ l->f b o x->g b o x):Row size g v l:=by
 rcases h with ⟨hl,h|⟨b,off,cap,hv,hc⟩⟩
 ·exact ⟨hl,.inl h⟩
 ·exact ⟨hl,.inr ⟨b,off,cap,hv,fun i x hi=>hfg _ _ _ (List.mem_of_getElem? hi) (hc i x hi)⟩⟩
def Ints (w:World) (v:Value) (l:List Int):Prop:=Row 1 (fun b o (z:Int)=>w.cell? ⟨b,o,none⟩=.some (.int .i64 z)) v l
theorem cell_on {w w':World} (hb:Below w.heap.size w w') {b o:Nat} {u:Value} (h:w.cell? ⟨b,o,none⟩=.some u):w'.cell? ⟨b,o,none⟩=.some u:=by
 rw [hb.cell (World.block_lt_of_cell? _ _ h)];exact h
theorem Ints.on {w w':World} (hb:Below w.heap.size w w') {v:Value} {l:List Int} (h:Ints w v l):Ints w' v l:=Row.imp h fun _ _ _ _ h=>cell_on hb h
structure Ins (α:Type) where
 op:Int
 a:Int
 b:Int
 n:Int
 labels:List Int
 body:α
 els:α
def IL:Nat->Type
 | 0=>Unit
 | d+1=>List (Ins (IL d))
structure InsAt {α:Type} (w:World) (sub:Value->α->Prop) (bk o:Nat) (x:Ins α):Prop where
 op:w.cell? ⟨bk,o,none⟩=.some (.int .i64 x.op)
 a:w.cell? ⟨bk,o+1,none⟩=.some (.int .i64 x.a)
 b:w.cell? ⟨bk,o+2,none⟩=.some (.int .i64 x.b)
 n:w.cell? ⟨bk,o+3,none⟩=.some (.int .i64 x.n)
 labels:∃v,w.cell? ⟨bk,o+4,none⟩=.some v/\Ints w v x.labels
 body:∃v,w.cell? ⟨bk,o+5,none⟩=.some v/\sub v x.body
 els:∃v,w.cell? ⟨bk,o+6,none⟩=.some v/\sub v x.els
def At (w:World):(d:Nat)->Value->IL d->Prop
 | 0,v,_=>∃o cap,v=.slice o 0 cap
 | d+1,v,l=>Row 7 (InsAt w (At w d)) v l
theorem InsAt.on {α : Type} {w w' : World} (hb : Below w.heap.size w w') {f g : Value → α → Prop} (hfg : ∀ v x, f v x → g v x) {b o : Nat} {x : Ins α} (h : InsAt w f b o x) : InsAt w' g b o x :=
  ⟨cell_on hb h.op, cell_on hb h.a, cell_on hb h.b, cell_on hb h.n,
   let ⟨v, h1, h2⟩ := h.labels; ⟨v, cell_on hb h1, h2.on hb⟩,
   let ⟨v, h1, h2⟩ := h.body; ⟨v, cell_on hb h1, hfg _ _ h2⟩,
   let ⟨v, h1, h2⟩ := h.els; ⟨v, cell_on hb h1, hfg _ _ h2⟩⟩
theorem At.on {w w':World} (hb:Below w.heap.size w w'):∀(d:Nat) (v:Value) (l:IL d),At w d v l->At w' d v l
 | 0,_,_,h=>h
 | d+1,_,_,h=>Row.imp (α:=Ins (IL d)) h fun _ _ _ _ h=>h.on hb (At.on hb d)
theorem below_drewN' (w:World) (n:Nat):Below w.heap.size w (w.drewN n):=⟨rfl,rfl,rfl,Nat.le_refl _,fun _ _=>rfl⟩
def cntL {α:Type} (f:α->Nat->Nat):List (Ins α)->Nat->Nat
 | [],c=>c
 | x :: r,c=>if c<=65536 then cntL f r (f x.els (f x.body (c+1))) else c
def cnt:(d:Nat)->IL d->Nat->Nat
 | 0,_,c=>c
 | d+1,l,c=>cntL (cnt d) l c
theorem cntL_le {α:Type} {f:α->Nat->Nat} (hf:∀x c,f x c<=max c 65537):∀(l:List (Ins α)) (c:Nat),cntL f l c<=max c 65537
 | [],c=>by unfold cntL;omega
 | x :: r,c=>by
  unfold cntL
  split
  ·have h1:=hf x.body (c+1)
   have h2:=hf x.els (f x.body (c+1))
   have h3:=cntL_le hf r (f x.els (f x.body (c+1)))
   omega
  ·omega
theorem cnt_le:∀(d:Nat) (l:IL d) (c:Nat),cnt d l c<=max c 65537
 | 0,_,c=>by show c<=_;omega
 | d+1,l,c=>cntL_le (cnt_le d) l c
end Rep
end Go.Proofs.YtlcpagiljfpbpaaGreatDoor

namespace Go.Proofs.YtlcpagiljfpbpaaGreatDoor
open Go.RowKit Rep
namespace Rep
structure FT where
 params:List Int
 results:List Int
structure Imp where
 mod:ByteArray
 name:ByteArray
 type:Int
structure Fun (d:Nat) where
 type:Int
 locals:List Int
 body:IL d
structure Lim where
 min:Int
 max:Int
 has:Bool
structure Glo (d:Nat) where
 type:Int
 mtb:Bool
 init:Ins (IL d)
structure Exp where
 name:ByteArray
 kind:Int
 index:Int
structure Elm (d:Nat) where
 offset:Ins (IL d)
 funcs:List Int
structure Dat (d:Nat) where
 offset:Ins (IL d)
 bytes:ByteArray
structure Mod (d:Nat) where
 types:List FT
 imports:List Imp
 funcs:List (Fun d)
 tables:List Lim
 mems:List Lim
 globals:List (Glo d)
 exports:List Exp
 start:List Int
 elems:List (Elm d)
 datas:List (Dat d)
structure FTAt (w:World) (bk o:Nat) (x:FT):Prop where
 params:∃v,w.cell? ⟨bk,o,none⟩=.some v/\Ints w v x.params
 results:∃v,w.cell? ⟨bk,o+1,none⟩=.some v/\Ints w v x.results
structure ImpAt (w:World) (bk o:Nat) (x:Imp):Prop where
 mod:w.cell? ⟨bk,o,none⟩=.some (.string x.mod)
 name:w.cell? ⟨bk,o+1,none⟩=.some (.string x.name)
 type:w.cell? ⟨bk,o+2,none⟩=.some (.int .i64 x.type)
structure FunAt (w:World) (d:Nat) (bk o:Nat) (x:Fun d):Prop where
 type:w.cell? ⟨bk,o,none⟩=.some (.int .i64 x.type)
 locals:∃v,w.cell? ⟨bk,o+1,none⟩=.some v/\Ints w v x.locals
 body:∃v,w.cell? ⟨bk,o+2,none⟩=.some v/\At w d v x.body
structure LimAt (w:World) (bk o:Nat) (x:Lim):Prop where
 min:w.cell? ⟨bk,o,none⟩=.some (.int .i64 x.min)
 max:w.cell? ⟨bk,o+1,none⟩=.some (.int .i64 x.max)
 has:w.cell? ⟨bk,o+2,none⟩=.some (.bool x.has)
structure GloAt (w:World) (d:Nat) (bk o:Nat) (x:Glo d):Prop where
 type:w.cell? ⟨bk,o,none⟩=.some (.int .i64 x.type)
 mtb:w.cell? ⟨bk,o+1,none⟩=.some (.bool x.mtb)
 init:InsAt w (At w d) bk (o+2) x.init
structure ExpAt (w:World) (bk o:Nat) (x:Exp):Prop where
 name:w.cell? ⟨bk,o,none⟩=.some (.string x.name)
 kind:w.cell? ⟨bk,o+1,none⟩=.some (.int .i64 x.kind)
 index:w.cell? ⟨bk,o+2,none⟩=.some (.int .i64 x.index)
structure ElmAt (w:World) (d:Nat) (bk o:Nat) (x:Elm d):Prop where
 offset:InsAt w (At w d) bk o x.offset
 funcs:∃v,w.cell? ⟨bk,o+7,none⟩=.some v/\Ints w v x.funcs
structure DatAt (w:World) (d:Nat) (bk o:Nat) (x:Dat d):Prop where
 offset:InsAt w (At w d) bk o x.offset
 bytes:w.cell? ⟨bk,o+7,none⟩=.some (.string x.bytes)
structure ModAt (w:World) (d:Nat) (v0 v1 v2 v3 v4 v5 v6 v7 v8 v9:Value) (m:Mod d):Prop where
 types:Row 2 (FTAt w) v0 m.types
 imports:Row 3 (ImpAt w) v1 m.imports
 funcs:Row 3 (FunAt w d) v2 m.funcs
 tables:Row 3 (LimAt w) v3 m.tables
 mems:Row 3 (LimAt w) v4 m.mems
 globals:Row 9 (GloAt w d) v5 m.globals
 exports:Row 3 (ExpAt w) v6 m.exports
 start:Ints w v7 m.start
 elems:Row 8 (ElmAt w d) v8 m.elems
 datas:Row 8 (DatAt w d) v9 m.datas
section On
variable {w w':World} (hb:Below w.heap.size w w')
include hb
theorem FTAt.on {bk o:Nat} {x:FT} (h:FTAt w bk o x):FTAt w' bk o x :=
 ⟨let ⟨v,a,b⟩:=h.params;⟨v,cell_on hb a,b.on hb⟩,let ⟨v,a,b⟩:=h.results;⟨v,cell_on hb a,b.on hb⟩⟩
theorem ImpAt.on {bk o:Nat} {x:Imp} (h:ImpAt w bk o x):ImpAt w' bk o x:=⟨cell_on hb h.mod,cell_on hb h.name,cell_on hb h.type⟩
theorem FunAt.on {d bk o:Nat} {x:Fun d} (h:FunAt w d bk o x):FunAt w' d bk o x :=
 ⟨cell_on hb h.type,let ⟨v,a,b⟩:=h.locals;⟨v,cell_on hb a,b.on hb⟩,let ⟨v,a,b⟩:=h.body;⟨v,cell_on hb a,At.on hb d v _ b⟩⟩
theorem LimAt.on {bk o:Nat} {x:Lim} (h:LimAt w bk o x):LimAt w' bk o x:=⟨cell_on hb h.min,cell_on hb h.max,cell_on hb h.has⟩
theorem GloAt.on {d bk o:Nat} {x:Glo d} (h:GloAt w d bk o x):GloAt w' d bk o x:=⟨cell_on hb h.type,cell_on hb h.mtb,h.init.on hb (At.on hb d)⟩
theorem ExpAt.on {bk o:Nat} {x:Exp} (h:ExpAt w bk o x):ExpAt w' bk o x:=⟨cell_on hb h.name,cell_on hb h.kind,cell_on hb h.index⟩
theorem ElmAt.on {d bk o:Nat} {x:Elm d} (h:ElmAt w d bk o x):ElmAt w' d bk o x:=⟨h.offset.on hb (At.on hb d),let ⟨v,a,b⟩:=h.funcs;⟨v,cell_on hb a,b.on hb⟩⟩
theorem DatAt.on {d bk o:Nat} {x:Dat d} (h:DatAt w d bk o x):DatAt w' d bk o x:=⟨h.offset.on hb (At.on hb d),cell_on hb h.bytes⟩
theorem ModAt.on {d : Nat} {v0 v1 v2 v3 v4 v5 v6 v7 v8 v9 : Value} {m : Mod d} (h : ModAt w d v0 v1 v2 v3 v4 v5 v6 v7 v8 v9 m) : ModAt w' d v0 v1 v2 v3 v4 v5 v6 v7 v8 v9 m :=
  ⟨h.types.imp fun _ _ _ _ => FTAt.on hb, h.imports.imp fun _ _ _ _ => ImpAt.on hb, h.funcs.imp fun _ _ _ _ => FunAt.on hb, h.tables.imp fun _ _ _ _ => LimAt.on hb, h.mems.imp fun _ _ _ _ => LimAt.on hb,
   h.globals.imp fun _ _ _ _ => GloAt.on hb, h.exports.imp fun _ _ _ _ => ExpAt.on hb, h.start.on hb, h.elems.imp fun _ _ _ _ => ElmAt.on hb, h.datas.imp fun _ _ _ _ => DatAt.on hb⟩
end On
def size:(d:Nat)->IL d->Nat
 | 0,_=>0
 | _+1,l=>List.length l
theorem At.len {w:World}:∀(d:Nat) (v:Value) (l:IL d),At w d v l->∃o cap,v=.slice o (size d l) cap
 | 0,_,_,h=>h
 | _+1,_,_,h=>Row.len h
end Rep
end Go.Proofs.YtlcpagiljfpbpaaGreatDoor

namespace Go.Proofs.YtlcpagiljfpbpaaGreatDoor
open Go.RowKit Rep
set_option linter.unusedVariables false
namespace Rep
theorem add_addr (b o k:Nat):(⟨b,o,none⟩:Addr).add k=⟨b,o+k,none⟩:=by
 by_cases hk:k=0
 ·subst hk;rfl
 ·simp [Addr.add,hk]
variable {H:Type} {enc:TypeId × Value->H} {P:Program} {w:World} {base:Nat} {spare:Nat->Bool} {held:Bool}
end Rep
section Of
variable {H:Type} {enc:TypeId × Value->H} {w:World} {base:Nat} {spare:Nat->Bool} {held:Bool}
end Of
end Go.Proofs.YtlcpagiljfpbpaaGreatDoor

namespace Go.Proofs.YtlcpagiljfpbpaaGreatDoor
open Go.RowKit Rep
set_option linter.unusedVariables false
theorem hideR {p:Prop} (h:p):Hid p:=h
theorem quiet_at {P:Program} {f:FuncId} {args:Array Value} {w:World} {m j:Nat} {v:Value} (h:Calls P f args (w.drewN (m+j)) fun e w'=>e=.returned v/\∃n,w'=(w.drewN (m+j)).drewN n) :
  Calls P f args (w.drewN (m+j)) fun e w'=>e=.returned v/\∃n,w'=w.drewN (m+n) :=
 h.mono fun _ _ ⟨he,n,hn⟩=>⟨he,j+n,by rw [hn,World.drewN_drewN,Nat.add_assoc]⟩
theorem cntL_end {α:Type} {f:α->Nat->Nat} {l:List (Ins α)} {k c r:Nat} (hk:¬ (k<l.length/\c<=65536)) (h:r=cntL f (l.drop k) c):r=c:=by
 rw [h]
 by_cases hl:k<l.length
 ·have hc:¬ c<=65536:=fun hc=>hk ⟨hl,hc⟩
  rw [List.drop_eq_getElem_cons hl]
  unfold cntL
  rw [if_neg hc]
 ·rw [List.drop_of_length_le (by omega)];rfl
theorem cntL_on {α:Type} {f:α->Nat->Nat} {l:List (Ins α)} {k c r:Nat} {x:Ins α} (hx:l[k]?=some x) (hc:c<=65536) (h:r=cntL f (l.drop k) c):r=cntL f (l.drop (k+1)) (f x.els (f x.body (c+1))):=by
 have hl:k<l.length:=(List.getElem?_eq_some_iff.1 hx).1
 have he:l[k]=x:=(List.getElem?_eq_some_iff.1 hx).2
 rw [h,List.drop_eq_getElem_cons hl,he]
 conv=>lhs;unfold cntL
 rw [if_pos hc]
set_option maxHeartbeats 1000000 in
theorem refCount0 (o:Option Addr) (cap c:Nat) (w:World) (hc:c<=65537) :
  Calls Tryz.prog 95 #[.slice o 0 cap,.int .i64 c] w fun e w'=>e=.returned (.int .i64 (c:Nat))/\∃m,w'=w.drewN m:=by
 go_enter Tryz.func95,Tryz.ntmps95
 go_wp2_with fail
 go_loopw [1,5] (fun u i wr=>u=.int .i64 c/\i=.int .i64 0/\wr=w) (fun _ _ _=>0)
 case atStart=>exact ⟨rfl,rfl,rfl⟩
 case round =>
  obtain ⟨rfl,rfl,rfl⟩:=hrel
  go_wp2
  go_ret
  exact ⟨rfl,0,rfl⟩
def CountSays (d:Nat):Prop:=∀(v:Value) (l:IL d) (c:Nat) (w:World),At w d v l->c<=65537 ->
  Calls Tryz.prog 95 #[v,.int .i64 c] w fun e w'=>e=.returned (.int .i64 (cnt d l c:Nat))/\∃m,w'=w.drewN m
set_option maxHeartbeats 1000000 in
theorem refCountS (d:Nat) (IH:CountSays d) (v:Value) (l:List (Ins (IL d))) (c:Nat) (w:World) (hAt:Row 7 (InsAt w (At w d)) v l) (hc:c<=65537) :
  Calls Tryz.prog 95 #[v,.int .i64 c] w fun e w'=>e=.returned (.int .i64 (cntL (cnt d) l c:Nat))/\∃m,w'=w.drewN m:=by
 have hlen:=hAt.1
 by_cases hz:l.length=0
 ·obtain ⟨o,cap,rfl⟩:=hAt.len
  rw [hz]
  obtain rfl:l = []:=List.length_eq_zero_iff.1 hz
  exact refCount0 o cap c w hc
 obtain ⟨b,off,cap,rfl,hx⟩:=hAt.some (by omega)
 obtain ⟨R,hR⟩:∃R,R=cntL (cnt d) l c:=⟨_,rfl⟩
 rw [<- hR]
 have HR:Hid (R=cntL (cnt d) (l.drop 0) c):=hR
 have HX:=hideR hx
 clear hx hAt hR
 generalize hn:l.length=n at *
 go_enter Tryz.func95,Tryz.ntmps95
 go_wp2_with fail
 go_loopw [1,5] (fun u i wr=>∃k ck m:Nat,k<=n/\ck<=65537/\u=.int .i64 ck/\i=.int .i64 k/\R=cntL (cnt d) (l.drop k) ck/\wr=w.drewN m) (fun _ i _=>n-(RowKit.intOf i).toNat)
 case atStart=>exact ⟨0,c,0,by omega,hc,rfl,rfl,HR.out,rfl⟩
 case round =>
  obtain ⟨k,ck,m,hk,hck,rfl,rfl,hrr,rfl⟩:=hrel
  have HK:=hideR hrr
  clear hrr
  by_cases hgo:k<n/\ck<=65536
  ·obtain ⟨x,hxk⟩:∃x,l[k]?=some x:=⟨_,List.getElem?_eq_getElem (by omega)⟩
   have hI:=HX.out k x hxk
   obtain ⟨vb,cb,ab⟩:=hI.body
   obtain ⟨ve,ce,ae⟩:=hI.els
   have HN:=hideR (cntL_on hxk hgo.2 HK.out)
   have hle1:=cnt_le d x.body (ck+1)
   have hle2:=cnt_le d x.els (cnt d x.body (ck+1))
   have e1:((ck+1:Nat):Int)=(ck:Int)+1:=by omega
   have i1:=fun (j:Nat)=>hideR (quiet_at (IH vb x.body (ck+1) (w.drewN (m+j)) (At.on (below_drewN' w _) _ _ _ ab) (by omega)))
   have i2:=fun (j:Nat)=>hideR (quiet_at (IH ve x.els (cnt d x.body (ck+1)) (w.drewN (m+j)) (At.on (below_drewN' w _) _ _ _ ae) (by omega)))
   rw [e1] at i1
   clear e1
   clear hI hxk ab ae HK
   generalize cnt d x.body (ck+1)=c1 at *
   generalize cnt d x.els c1=c2 at *
   have hg1:k<n:=hgo.1
   have hg2:ck<=65536:=hgo.2
   clear hgo
   go_wp2_with fail
   go_quiet (first|(go_at_call_of 95 vb;exact (i1 _).out)|(go_at_call_of 95 ve;exact (i2 _).out))
   go_wp2
   go_roundw
   case rel=>exact ⟨k+1,c2,m+nq,by omega,by omega,rfl,by go_num,HN.out,rfl⟩
   case measure=>simp [RowKit.intOf];omega
  ·have HE:=hideR (cntL_end (by omega) HK.out)
   by_cases hkn:k<n
   ·have hb:decide ((ck:Int)<=65536)=false:=by simp;omega
    go_wp2
    go_ret
    exact ⟨by rw [HE.out];rfl,m,rfl⟩
   ·go_wp2
    go_ret
    exact ⟨by rw [HE.out];rfl,m,rfl⟩
theorem refCount:∀(d:Nat),CountSays d
 | 0=>fun v l c w ⟨o,cap,hv⟩ hc=>by
  subst hv
  exact refCount0 o cap c w hc
 | d+1=>fun v l c w hAt hc=>refCountS d (refCount d) v l c w hAt hc
end Go.Proofs.YtlcpagiljfpbpaaGreatDoor

namespace Go.Proofs.YtlcpagiljfpbpaaGreatDoor
open Go.RowKit Rep
set_option linter.unusedVariables false
namespace Rep
end Rep
end Go.Proofs.YtlcpagiljfpbpaaGreatDoor

namespace Go.Proofs.YtlcpagiljfpbpaaGreatDoor
open Go.RowKit Rep
set_option linter.unusedVariables false
namespace Rep
theorem hideM {p:Prop} (h:p):Hid p:=h
def idx (n:Int):Bool:=decide (0<=n/\n<=4294967295)
def typ (n:Int):Bool:=decide (n=126\/n=127)
theorem all_end {α:Type} {p:α->Bool} {l:List α} {k:Nat} {r:Bool} (hk:¬ k<l.length) (h:r=(l.drop k).all p):r=true:=by
 rw [h,List.drop_of_length_le (by omega)];rfl
theorem all_on {α:Type} {p:α->Bool} {l:List α} {k:Nat} {r:Bool} {x:α} (hx:l[k]?=some x) (h:r=(l.drop k).all p):r=(p x && (l.drop (k+1)).all p):=by
 have hl:k<l.length:=(List.getElem?_eq_some_iff.1 hx).1
 have he:l[k]=x:=(List.getElem?_eq_some_iff.1 hx).2
 rw [h,List.drop_eq_getElem_cons hl,he,List.all_cons]
theorem retB {a b:Bool} (h:a=b):Ending.returned (.bool a)=.returned (.bool b):=by rw [h]
end Rep
set_option maxHeartbeats 400000 in
theorem refIndex (n:Int) (w:World):Calls Tryz.prog 97 #[.int .i64 n] w fun e w'=>e=.returned (.bool (idx n))/\w'=w:=by
 go_enter Tryz.func97,Tryz.ntmps97
 go_wp2
 all_goals go_ret
 all_goals refine ⟨retB ?_,rfl⟩
 all_goals (unfold idx;rw [Bool.eq_iff_iff];simp only [decide_eq_true_eq];first|omega|(simp;omega))
set_option maxHeartbeats 400000 in
theorem refIn (n a b:Int) (w:World):Calls Tryz.prog 101 #[.int .i64 n,.int .i64 a,.int .i64 b] w fun e w'=>e=.returned (.bool (decide (a<=n/\n<=b)))/\w'=w:=by
 go_enter Tryz.func101,Tryz.ntmps101
 go_wp2
 all_goals go_ret
 all_goals refine ⟨retB ?_,rfl⟩
 all_goals first|rfl|(rw [Bool.eq_iff_iff];simp;done)|(rw [Bool.eq_iff_iff];simp;omega)|(symm;simp;omega)
set_option maxHeartbeats 1000000 in
theorem refIndices (v:Value) (l:List Int) (w:World) (hAt:Ints w v l) :
  Calls Tryz.prog 102 #[v] w fun e w'=>e=.returned (.bool (l.all idx))/\w'=w:=by
 have hlen:=hAt.1
 obtain ⟨o,cap,hv⟩:=Row.len hAt
 have hs:=Row.some hAt
 subst hv
 obtain ⟨R,hR⟩:∃R,R=l.all idx:=⟨_,rfl⟩
 rw [<- hR]
 have HR:Hid (R=(l.drop 0).all idx):=hR
 have HX:=hideM hs
 clear hs hAt hR
 generalize hn:l.length=n at *
 go_enter Tryz.func102,Tryz.ntmps102
 go_wp2_with fail
 go_loopw [3] (fun i wr=>∃k:Nat,k<=n/\i=.int .i64 k/\R=(l.drop k).all idx/\wr=w) (fun i _=>n-(RowKit.intOf i).toNat)
 case atStart=>exact ⟨0,by omega,rfl,HR.out,rfl⟩
 case round =>
  obtain ⟨k,hk,rfl,hrr,rfl⟩:=hrel
  have HK:=hideM hrr
  clear hrr
  by_cases hgo:k<n
  ·obtain ⟨b,off,cap2,hv2,hx⟩:=HX.out (by omega)
   injection hv2 with ho h2 h3
   subst ho
   obtain ⟨x,hxk⟩:∃x,l[k]?=some x:=⟨_,List.getElem?_eq_getElem (by omega)⟩
   have hc:=hx k x hxk
   rw [Nat.mul_one] at hc
   have HN:=all_on hxk HK.out
   have i1:=hideM (refIndex x wr)
   clear hx hxk HK HX h2 h3
   generalize idx x=r1 at *
   have HN':=hideM HN
   clear HN
   go_wp2_with fail
   refine i1.out.mono ?_
   rintro e w1 ⟨rfl,rfl⟩
   cases r1
   ·have hfin:R=false:=by rw [HN'.out];rfl
    go_wp2
    go_ret
    exact ⟨by first|rfl|(rw [hfin];rfl),rfl⟩
   ·go_wp2
    go_roundw
    case rel=>exact ⟨k+1,by omega,by go_num,by rw [HN'.out];rfl,trivial⟩
    case measure=>simp [RowKit.intOf];omega
  ·have HE:=all_end (by omega) HK.out
   clear HK
   go_wp2
   go_ret
   exact ⟨by first|rfl|(rw [HE];rfl),rfl⟩
set_option maxHeartbeats 1000000 in
theorem refTypes (v:Value) (l:List Int) (w:World) (hAt:Ints w v l) :
  Calls Tryz.prog 96 #[v] w fun e w'=>e=.returned (.bool (l.all typ))/\w'=w:=by
 have hlen:=hAt.1
 obtain ⟨o,cap,hv⟩:=Row.len hAt
 have hs:=Row.some hAt
 subst hv
 obtain ⟨R,hR⟩:∃R,R=l.all typ:=⟨_,rfl⟩
 rw [<- hR]
 have HR:Hid (R=(l.drop 0).all typ):=hR
 have HX:=hideM hs
 clear hs hAt hR
 generalize hn:l.length=n at *
 go_enter Tryz.func96,Tryz.ntmps96
 go_wp2_with fail
 go_loopw [3] (fun i wr=>∃k:Nat,k<=n/\i=.int .i64 k/\R=(l.drop k).all typ/\wr=w) (fun i _=>n-(RowKit.intOf i).toNat)
 case atStart=>exact ⟨0,by omega,rfl,HR.out,rfl⟩
 case round =>
  obtain ⟨k,hk,rfl,hrr,rfl⟩:=hrel
  have HK:=hideM hrr
  clear hrr
  by_cases hgo:k<n
  ·obtain ⟨b,off,cap2,hv2,hx⟩:=HX.out (by omega)
   injection hv2 with ho h2 h3
   subst ho
   obtain ⟨x,hxk⟩:∃x,l[k]?=some x:=⟨_,List.getElem?_eq_getElem (by omega)⟩
   have hc:=hx k x hxk
   rw [Nat.mul_one] at hc
   have HN:=all_on hxk HK.out
   clear hx hxk HK HX h2 h3
   by_cases h1:x=126
   ·have ht:typ x=true:=by simp [typ,h1]
    rw [ht,Bool.true_and] at HN
    have HN':=hideM HN
    have hb:(x != 126)=false:=by simp [h1]
    clear HN h1 ht
    go_wp2
    go_roundw
    case rel=>exact ⟨k+1,by omega,by go_num,HN'.out,trivial⟩
    case measure=>simp [RowKit.intOf];omega
   ·by_cases h2:x=127
    ·have ht:typ x=true:=by simp [typ,h2]
     rw [ht,Bool.true_and] at HN
     have HN':=hideM HN
     have hb:(x != 126)=true:=by simp [h1]
     have hb2:(x != 127)=false:=by simp [h2]
     clear HN h1 ht h2
     go_wp2
     go_roundw
     case rel=>exact ⟨k+1,by omega,by go_num,HN'.out,trivial⟩
     case measure=>simp [RowKit.intOf];omega
    ·have ht:typ x=false:=by simp [typ,h1,h2]
     rw [ht,Bool.false_and] at HN
     have hb:(x != 126)=true:=by simp [h1]
     have hb2:(x != 127)=true:=by simp [h2]
     clear h1 ht h2
     go_wp2
     go_ret
     exact ⟨by first|rfl|(rw [HN];rfl),rfl⟩
  ·have HE:=all_end (by omega) HK.out
   clear HK
   go_wp2
   go_ret
   exact ⟨by first|rfl|(rw [HE];rfl),rfl⟩
end Go.Proofs.YtlcpagiljfpbpaaGreatDoor

namespace Go.Proofs.YtlcpagiljfpbpaaGreatDoor
open Go.RowKit Rep
set_option linter.unusedVariables false
def gave (k:Int):List PanicEntry:=[{ v:=.iface 36 (.int .i64 k),recovered:=false }]
def Needs (ok:Bool) (k:Int) (e:Ending):Prop:=(ok=true/\e=.returned (.tuple #[]))\/(ok=false/\e=.panicked (gave k))
set_option maxHeartbeats 400000 in
theorem pNeed (c:Bool) (k:Int) (w:World):Calls Tryz.prog 37 #[.bool c,.int .i64 k] w fun e w'=>Needs c k e/\w'=w:=by
 cases c
 ·go_enter Tryz.func37,Tryz.ntmps37
  go_wp2
  exact ⟨rfl,.inr ⟨rfl,rfl⟩,rfl⟩
 ·go_enter Tryz.func37,Tryz.ntmps37
  go_wp2
  go_end0
  exact ⟨.inl ⟨rfl,rfl⟩,rfl⟩
end Go.Proofs.YtlcpagiljfpbpaaGreatDoor

namespace Go.Proofs.YtlcpagiljfpbpaaGreatDoor
open Go.RowKit Rep
set_option linter.unusedVariables false
namespace Rep
structure Sn where
 op:Int
 a:Int
 b:Int
 n:Int
 labels:List Int
 nb:Nat
 ne:Nat
def sn {d:Nat} (x:Ins (IL d)):Sn:=⟨x.op,x.a,x.b,x.n,x.labels,size d x.body,size d x.els⟩
def goL {α σ:Type} (step:σ->Ins α->Option σ) (sub:α->σ->Option σ):List (Ins α)->σ->Option σ
 | [],s=>some s
 | x :: r,s=>(step s x).bind fun s1=>(sub x.body s1).bind fun s2=>(sub x.els s2).bind fun s3=>goL step sub r s3
def goI {σ:Type} (step:σ->Sn->Nat->Option σ):(d:Nat)->IL d->Nat->σ->Option σ
 | 0,_,_,s=>some s
 | d+1,l,k,s=>goL (fun s x=>step s (sn x) k) (fun y s=>goI step d y (k+1) s) l s
def rest {σ:Type} (step:σ->Sn->Nat->Option σ) (d:Nat) (l:List (Ins (IL d))) (k j:Nat) (s:σ):Option σ :=
 goL (fun s x=>step s (sn x) k) (fun y s=>goI step d y (k+1) s) (l.drop j) s
theorem rest_end {σ:Type} {step:σ->Sn->Nat->Option σ} {d:Nat} {l:List (Ins (IL d))} {k j:Nat} {s:σ} (h:l.length<=j):rest step d l k j s=some s:=by
 unfold rest;rw [List.drop_of_length_le h];rfl
theorem rest_on {σ:Type} {step:σ->Sn->Nat->Option σ} {d:Nat} {l:List (Ins (IL d))} {k j:Nat} {s:σ} {x:Ins (IL d)} (hx:l[j]?=some x) :
  rest step d l k j s=(step s (sn x) k).bind fun s1=>(goI step d x.body (k+1) s1).bind fun s2=>(goI step d x.els (k+1) s2).bind fun s3=>rest step d l k (j+1) s3:=by
 have hl:j<l.length:=(List.getElem?_eq_some_iff.1 hx).1
 have he:l[j]=x:=(List.getElem?_eq_some_iff.1 hx).2
 unfold rest
 rw [List.drop_eq_getElem_cons hl,he]
 rfl
structure Kp (S:Nat->Prop) (w w':World):Prop where
 os:w'.os=w.os
 tape:w'.tape=w.tape
 output:w'.output=w.output
 size:w.heap.size<=w'.heap.size
 block:∀k,k<w.heap.size->¬ S k->w'.heap[k]?=w.heap[k]?
theorem Kp.refl (S:Nat->Prop) (w:World):Kp S w w:=⟨rfl,rfl,rfl,Nat.le_refl _,fun _ _ _=>rfl⟩
theorem Kp.trans {S:Nat->Prop} {a b c:World} (h:Kp S a b) (k:Kp S b c):Kp S a c :=
 ⟨k.os.trans h.os,k.tape.trans h.tape,k.output.trans h.output,Nat.le_trans h.size k.size,fun i hi hs=>(k.block i (Nat.lt_of_lt_of_le hi h.size) hs).trans (h.block i hi hs)⟩
theorem Kp.of_below {S:Nat->Prop} {a b:World} (h:Below a.heap.size a b):Kp S a b:=⟨h.os,h.tape,h.output,h.size,fun i hi _=>h.block i hi⟩
theorem Kp.alloc {S:Nat->Prop} {a b:World} (h:Kp S a b) (o:Obj):Kp S a (b.alloc o):=h.trans (Kp.of_below ((Below.refl _ b).alloc (Nat.le_refl _) o))
theorem Kp.to_below {w w':World} (h:Kp (fun _=>False) w w'):Below w.heap.size w w':=⟨h.os,h.tape,h.output,h.size,fun k hk=>h.block k hk fun hs=>hs⟩
theorem Kp.below {S:Nat->Prop} {w0 a b:World} (hS:∀k,S k->w0.heap.size<=k) (h0:Below w0.heap.size w0 a) (h:Kp S a b):Below w0.heap.size w0 b :=
 h0.trans ⟨h.os,h.tape,h.output,h.size,fun k hk=>h.block k (Nat.lt_of_lt_of_le hk h0.size) fun hs=>absurd (hS k hs) (by omega)⟩
theorem Kp.cell {S:Nat->Prop} {a b:World} (h:Kp S a b) {p:Addr} (hp:p.block<a.heap.size) (hs:¬ S p.block):b.cell? p=a.cell? p:=World.cell?_of_block (w:=a) (h.block p.block hp hs)
theorem new_cell (w:World) (xs:Array Value) (t:TypeId) (i:Nat) (v:Value) (h:xs[i]?=some v):(w.alloc (.cells xs t)).cell? ⟨w.heap.size,i,none⟩=some v:=by
 rw [World.cell?_alloc_at xs t _ i rfl];exact h
theorem size_alloc (w:World) (o:Obj):(w.alloc o).heap.size=w.heap.size+1:=by simp
end Rep
def SeeC {σ:Type} (f:FuncId) (args:Value->Value->Array Value) (w0:World) (S:Nat->Prop) (Inv:σ->World->Prop) (step:σ->Sn->Nat->Option σ) (k:Int):Prop :=
 ∀(s:σ) (x:Sn) (lv bv ev:Value) (dep:Nat) (w:World),Below w0.heap.size w0 w->Inv s w->Ints w lv x.labels->(∃o c,bv=.slice o x.nb c)->(∃o c,ev=.slice o x.ne c)->dep<=4611686018427387904 ->
  Calls Tryz.prog f (args (.agg #[.int .i64 x.op,.int .i64 x.a,.int .i64 x.b,.int .i64 x.n,lv,bv,ev]) (.int .i64 dep)) w fun e w' =>
   Kp S w w'/\((∃s',step s x dep=some s'/\e=.returned (.tuple #[])/\Inv s' w')\/(step s x dep=none/\e=.panicked (gave k)))
def WalkSays {σ:Type} (fv:Value) (w0:World) (S:Nat->Prop) (Inv:σ->World->Prop) (step:σ->Sn->Nat->Option σ) (k:Int) (d:Nat):Prop :=
 ∀(v:Value) (l:IL d) (dep:Nat) (s:σ) (w:World),At w0 d v l->Below w0.heap.size w0 w->Inv s w->(∀k,S k->k<w.heap.size)->dep+d<=4611686018427387904 ->
  Calls Tryz.prog 77 #[v,.int .i64 dep,fv] w fun e w' =>
   Kp S w w'/\((∃s',goI step d l dep s=some s'/\e=.returned (.tuple #[])/\Inv s' w')\/(goI step d l dep s=none/\e=.panicked (gave k)))
end Go.Proofs.YtlcpagiljfpbpaaGreatDoor

