/- Texts that the claim needs. -/
import Derived.WalkKit
import Derived.Test.YtmfcojpjpgldhaaGreatDoorRows
import Derived.WalkSpells
import Derived.WalkSmall
import Derived.BigQuiet
import Derived.Deep.QuietTactic
import Derived.Deep.RegionWith
import Derived.Laws.AppendOwn
import Derived.Laws.AppendOwnNone
import Derived.OwnWalk
import Derived.Orders
namespace Go.Proofs.YtmfcojpjpgldhaaGreatDoor
abbrev au:=@decide_eq_false
abbrev aC:=@decide_eq_true
abbrev aB:=@List.length_append
abbrev aY:=@List.getElem?_eq_getElem
abbrev bf:=@List.append_assoc
abbrev aI:=@Nat.le_refl
abbrev bI:=@List.length_cons
abbrev fZ:=@List.getElem?_eq_some_iff
abbrev dK:=@List.mem_of_getElem?
abbrev bP:=@List.length_nil
abbrev fI:=@List.getElem?_toArray
abbrev gz:=@List.getElem?_cons_zero
abbrev gX:=@List.getElem?_cons_succ
abbrev fK:=@List.drop_succ_cons
abbrev ed:=@List.nil_append
abbrev kD:=@Array.getElem?_eq_some_iff
abbrev gA:=@Option.some.injEq
abbrev gm:=@Bool.and_eq_true
abbrev iH:=@List.take_succ_cons
abbrev fB:=@List.drop_zero
abbrev jZ:=@List.take_of_length_le
abbrev lX:=@List.drop_eq_getElem_cons
abbrev iy:=@List.cons_append
abbrev fN:=@Bool.true_and
abbrev iF:=@List.all_eq_true
abbrev iI:=@List.take_zero
abbrev Nn:=@beq_eq_false_iff_ne
abbrev qy:=@List.getD_cons_succ
abbrev qA:=@List.getD_cons_zero
abbrev zz:=@List.drop_eq_nil_of_le
abbrev zX:=@List.getElem?_append_left
abbrev zx:=@List.getElem?_append_right
abbrev pR:=@List.mem_cons
abbrev vR:=@List.flatMap_append
abbrev oI:=@List.length_map
abbrev nH:=@Nat.lt_of_lt_of_le
abbrev tL:=@Nat.le_trans
abbrev zA:=@List.map_append
abbrev uz:=@Array.getElem?_eq_getElem
abbrev mM:=@List.length_eq_zero_iff
abbrev jY:=@List.length_take
abbrev p7:=@List.length_drop
abbrev xA:=@Bool.and_assoc
theorem ah {a b:Int} (h:a≠b):(a==b)=false:=beq_eq_false_iff_ne.2 h
end Go.Proofs.YtmfcojpjpgldhaaGreatDoor
namespace Go.Proofs.YtmfcojpjpgldhaaGreatDoor
open Go.RowKit
namespace aA
def Row {α:Type} (size:Nat) (f:Nat->Nat->α->Prop) (v:Value) (l:List α):Prop :=
 l.length<=9223372036854775807/\((l = []/\∃o cap,v=.slice o 0 cap)\/∃b off cap,v=.slice (some ⟨b,off,none⟩) l.length cap/\∀(i:Nat) (x:α),l[i]?=some x->f b (off+i*size) x)
theorem Row.len {α:Type} {size:Nat} {f:Nat->Nat->α->Prop} {v:Value} {l:List α} (h:Row size f v l):∃o cap,v=.slice o l.length cap:=by
 rcases h with ⟨_,⟨rfl,o,cap,rfl⟩|⟨b,off,cap,rfl,_⟩⟩
 ·exact ⟨o,cap,rfl⟩
 exact ⟨_,cap,rfl⟩
theorem Row.some {α:Type} {size:Nat} {f:Nat->Nat->α->Prop} {v:Value} {l:List α} (h:Row size f v l) (h0:0<l.length):∃b off cap,v=.slice (some ⟨b,off,none⟩) l.length cap/\∀(i:Nat) (x:α),l[i]?=some x->f b (off+i*size) x:=by
 rcases h with ⟨_,⟨rfl,_⟩|h⟩
 ·exact absurd h0 (by simp)
 exact h
theorem Row.imp {α:Type} {size:Nat} {f g:Nat->Nat->α->Prop} {v:Value} {l:List α} (h:Row size f v l) (hfg:∀b o x,x ∈ l->f b o x->g b o x):Row size g v l:=by
 rcases h with ⟨hl,h|⟨b,off,cap,hv,hc⟩⟩
 ·exact ⟨hl,.inl h⟩
 exact ⟨hl,.inr ⟨b,off,cap,hv,λi x hi=>hfg _ _ _ (dK hi) (hc i x hi)⟩⟩
def Ints (w:World) (v:Value) (l:List Int):Prop:=Row 1 (λb o (z:Int)=>w.cell? ⟨b,o,none⟩=.some (.int .i64 z)) v l
theorem aj {w w':World} (hb:Below w.heap.size w w') {b o:Nat} {u:Value} (h:w.cell? ⟨b,o,none⟩=.some u):w'.cell? ⟨b,o,none⟩=.some u:=by
 rw [hb.cell (World.block_lt_of_cell? _ _ h)];exact h
theorem Ints.on {w w':World} (hb:Below w.heap.size w w') {v:Value} {l:List Int} (h:Ints w v l):Ints w' v l:=Row.imp h λ_ _ _ _ h=>aj hb h
structure Ins (α:Type) where
 op:Int
 a:Int
 b:Int
 n:Int
 labels:List Int
 body:α
 els:α
def IL:Nat->Type
 | 0=>Unit
 | d+1=>List (Ins (IL d))
structure fA {α:Type} (w:World) (sub:Value->α->Prop) (bk o:Nat) (x:Ins α):Prop where
 op:w.cell? ⟨bk,o,none⟩=.some (.int .i64 x.op)
 a:w.cell? ⟨bk,o+1,none⟩=.some (.int .i64 x.a)
 b:w.cell? ⟨bk,o+2,none⟩=.some (.int .i64 x.b)
 n:w.cell? ⟨bk,o+3,none⟩=.some (.int .i64 x.n)
 labels:∃v,w.cell? ⟨bk,o+4,none⟩=.some v/\Ints w v x.labels
 body:∃v,w.cell? ⟨bk,o+5,none⟩=.some v/\sub v x.body
 els:∃v,w.cell? ⟨bk,o+6,none⟩=.some v/\sub v x.els
def At (w:World):(d:Nat)->Value->IL d->Prop
 | 0,v,_=>∃o cap,v=.slice o 0 cap
 | d+1,v,l=>Row 7 (fA w (At w d)) v l
theorem fA.on {α : Type} {w w' : World} (hb : Below w.heap.size w w') {f g : Value → α → Prop} (hfg : ∀ v x, f v x → g v x) {b o : Nat} {x : Ins α} (h : fA w f b o x) : fA w' g b o x :=
  ⟨aj hb h.op, aj hb h.a, aj hb h.b, aj hb h.n,
   let ⟨v, h1, h2⟩ := h.labels; ⟨v, aj hb h1, h2.on hb⟩,
   let ⟨v, h1, h2⟩ := h.body; ⟨v, aj hb h1, hfg _ _ h2⟩,
   let ⟨v, h1, h2⟩ := h.els; ⟨v, aj hb h1, hfg _ _ h2⟩⟩
theorem At.on {w w':World} (hb:Below w.heap.size w w'):∀(d:Nat) (v:Value) (l:IL d),At w d v l->At w' d v l
 | 0,_,_,h=>h
 | d+1,_,_,h=>Row.imp (α:=Ins (IL d)) h λ_ _ _ _ h=>h.on hb (At.on hb d)
theorem yd (w:World) (n:Nat):Below w.heap.size w (w.drewN n):=⟨rfl,rfl,rfl,aI _,λ_ _=>rfl⟩
def oz {α:Type} (f:α->Nat->Nat):List (Ins α)->Nat->Nat
 | [],c=>c
 | x :: r,c=>if c<=65536 then oz f r (f x.els (f x.body (c+1))) else c
def cnt:(d:Nat)->IL d->Nat->Nat
 | 0,_,c=>c
 | d+1,l,c=>oz (cnt d) l c
theorem Mg {α:Type} {f:α->Nat->Nat} (hf:∀x c,f x c<=max c 65537):∀(l:List (Ins α)) (c:Nat),oz f l c<=max c 65537
 | [],c=>by unfold oz;omega
 | x :: r,c=>by
  unfold oz;split
  ·have h1:=hf x.body (c+1);have h2:=hf x.els (f x.body (c+1));have h3:=Mg hf r (f x.els (f x.body (c+1)));omega
  omega
theorem AR:∀(d:Nat) (l:IL d) (c:Nat),cnt d l c<=max c 65537
 | 0,_,c=>by show c<=_;omega
 | d+1,l,c=>Mg (AR d) l c
end aA
end Go.Proofs.YtmfcojpjpgldhaaGreatDoor
namespace Go.Proofs.YtmfcojpjpgldhaaGreatDoor
open Go.RowKit aA
namespace aA
structure FT where
 params:List Int
 results:List Int
structure rY where
 mod:ByteArray
 name:ByteArray
 type:Int
structure gy (d:Nat) where
 type:Int
 locals:List Int
 body:IL d
structure gN where
 min:Int
 max:Int
 has:Bool
structure qp (d:Nat) where
 type:Int
 jL:Bool
 init:Ins (IL d)
structure rZ where
 name:ByteArray
 kind:Int
 index:Int
structure qq (d:Nat) where
 offset:Ins (IL d)
 funcs:List Int
structure Dat (d:Nat) where
 offset:Ins (IL d)
 bytes:ByteArray
structure Mod (d:Nat) where
 types:List FT
 imports:List rY
 funcs:List (gy d)
 tables:List gN
 aD:List gN
 globals:List (qp d)
 exports:List rZ
 start:List Int
 elems:List (qq d)
 ax:List (Dat d)
structure nu (w:World) (bk o:Nat) (x:FT):Prop where
 params:∃v,w.cell? ⟨bk,o,none⟩=.some v/\Ints w v x.params
 results:∃v,w.cell? ⟨bk,o+1,none⟩=.some v/\Ints w v x.results
structure pU (w:World) (bk o:Nat) (x:rY):Prop where
 mod:w.cell? ⟨bk,o,none⟩=.some (.string x.mod)
 name:w.cell? ⟨bk,o+1,none⟩=.some (.string x.name)
 type:w.cell? ⟨bk,o+2,none⟩=.some (.int .i64 x.type)
structure jW (w:World) (d:Nat) (bk o:Nat) (x:gy d):Prop where
 type:w.cell? ⟨bk,o,none⟩=.some (.int .i64 x.type)
 locals:∃v,w.cell? ⟨bk,o+1,none⟩=.some v/\Ints w v x.locals
 body:∃v,w.cell? ⟨bk,o+2,none⟩=.some v/\At w d v x.body
structure gD (w:World) (bk o:Nat) (x:gN):Prop where
 min:w.cell? ⟨bk,o,none⟩=.some (.int .i64 x.min)
 max:w.cell? ⟨bk,o+1,none⟩=.some (.int .i64 x.max)
 has:w.cell? ⟨bk,o+2,none⟩=.some (.bool x.has)
structure mN (w:World) (d:Nat) (bk o:Nat) (x:qp d):Prop where
 type:w.cell? ⟨bk,o,none⟩=.some (.int .i64 x.type)
 jL:w.cell? ⟨bk,o+1,none⟩=.some (.bool x.jL)
 init:fA w (At w d) bk (o+2) x.init
structure pV (w:World) (bk o:Nat) (x:rZ):Prop where
 name:w.cell? ⟨bk,o,none⟩=.some (.string x.name)
 kind:w.cell? ⟨bk,o+1,none⟩=.some (.int .i64 x.kind)
 index:w.cell? ⟨bk,o+2,none⟩=.some (.int .i64 x.index)
structure mO (w:World) (d:Nat) (bk o:Nat) (x:qq d):Prop where
 offset:fA w (At w d) bk o x.offset
 funcs:∃v,w.cell? ⟨bk,o+7,none⟩=.some v/\Ints w v x.funcs
structure nR (w:World) (d:Nat) (bk o:Nat) (x:Dat d):Prop where
 offset:fA w (At w d) bk o x.offset
 bytes:w.cell? ⟨bk,o+7,none⟩=.some (.string x.bytes)
structure da (w:World) (d:Nat) (v0 v1 v2 v3 v4 v5 v6 v7 v8 v9:Value) (m:Mod d):Prop where
 types:Row 2 (nu w) v0 m.types
 imports:Row 3 (pU w) v1 m.imports
 funcs:Row 3 (jW w d) v2 m.funcs
 tables:Row 3 (gD w) v3 m.tables
 aD:Row 3 (gD w) v4 m.aD
 globals:Row 9 (mN w d) v5 m.globals
 exports:Row 3 (pV w) v6 m.exports
 start:Ints w v7 m.start
 elems:Row 8 (mO w d) v8 m.elems
 ax:Row 8 (nR w d) v9 m.ax
section On
variable {w w':World} (hb:Below w.heap.size w w')
include hb
theorem nu.on {bk o:Nat} {x:FT} (h:nu w bk o x):nu w' bk o x :=
 ⟨let ⟨v,a,b⟩:=h.params;⟨v,aj hb a,b.on hb⟩,let ⟨v,a,b⟩:=h.results;⟨v,aj hb a,b.on hb⟩⟩
theorem pU.on {bk o:Nat} {x:rY} (h:pU w bk o x):pU w' bk o x:=⟨aj hb h.mod,aj hb h.name,aj hb h.type⟩
theorem jW.on {d bk o:Nat} {x:gy d} (h:jW w d bk o x):jW w' d bk o x :=
 ⟨aj hb h.type,let ⟨v,a,b⟩:=h.locals;⟨v,aj hb a,b.on hb⟩,let ⟨v,a,b⟩:=h.body;⟨v,aj hb a,At.on hb d v _ b⟩⟩
theorem gD.on {bk o:Nat} {x:gN} (h:gD w bk o x):gD w' bk o x:=⟨aj hb h.min,aj hb h.max,aj hb h.has⟩
theorem mN.on {d bk o:Nat} {x:qp d} (h:mN w d bk o x):mN w' d bk o x:=⟨aj hb h.type,aj hb h.jL,h.init.on hb (At.on hb d)⟩
theorem pV.on {bk o:Nat} {x:rZ} (h:pV w bk o x):pV w' bk o x:=⟨aj hb h.name,aj hb h.kind,aj hb h.index⟩
theorem mO.on {d bk o:Nat} {x:qq d} (h:mO w d bk o x):mO w' d bk o x:=⟨h.offset.on hb (At.on hb d),let ⟨v,a,b⟩:=h.funcs;⟨v,aj hb a,b.on hb⟩⟩
theorem nR.on {d bk o:Nat} {x:Dat d} (h:nR w d bk o x):nR w' d bk o x:=⟨h.offset.on hb (At.on hb d),aj hb h.bytes⟩
theorem da.on {d : Nat} {v0 v1 v2 v3 v4 v5 v6 v7 v8 v9 : Value} {m : Mod d} (h : da w d v0 v1 v2 v3 v4 v5 v6 v7 v8 v9 m) : da w' d v0 v1 v2 v3 v4 v5 v6 v7 v8 v9 m :=
  ⟨h.types.imp λ_ _ _ _ => nu.on hb, h.imports.imp λ_ _ _ _ => pU.on hb, h.funcs.imp λ_ _ _ _ => jW.on hb, h.tables.imp λ_ _ _ _ => gD.on hb, h.aD.imp λ_ _ _ _ => gD.on hb,
   h.globals.imp λ_ _ _ _ => mN.on hb, h.exports.imp λ_ _ _ _ => pV.on hb, h.start.on hb, h.elems.imp λ_ _ _ _ => mO.on hb, h.ax.imp λ_ _ _ _ => nR.on hb⟩
end On
def size:(d:Nat)->IL d->Nat
 | 0,_=>0
 | _+1,l=>List.length l
theorem At.len {w:World}:∀(d:Nat) (v:Value) (l:IL d),At w d v l->∃o cap,v=.slice o (size d l) cap
 | 0,_,_,h=>h
 | _+1,_,_,h=>Row.len h
theorem At.bound {w:World}:∀(d:Nat) (v:Value) (l:IL d),At w d v l->size d l<=9223372036854775807
 | 0,_,_,_=>by show 0<=_;omega
 | _+1,_,_,h=>h.1
end aA
end Go.Proofs.YtmfcojpjpgldhaaGreatDoor
namespace Go.Proofs.YtmfcojpjpgldhaaGreatDoor
open Go.RowKit aA Go.Proofs.Tryz
set_option linter.unusedVariables false
set_option maxHeartbeats 1000000
theorem aa {p:Prop} (h:p):Hid p:=h
theorem Nw {P:Program} {f:FuncId} {args:Array Value} {w:World} {m j:Nat} {v:Value} (h:Calls P f args (w.drewN (m+j)) λe w'=>e=.returned v/\∃n,w'=(w.drewN (m+j)).drewN n) :
  Calls P f args (w.drewN (m+j)) λe w'=>e=.returned v/\∃n,w'=w.drewN (m+n) :=
 h.mono λ_ _ ⟨he,n,hn⟩=>⟨he,j+n,by rw [hn,World.drewN_drewN,Nat.add_assoc]⟩
theorem Zx {α:Type} {f:α->Nat->Nat} {l:List (Ins α)} {k c r:Nat} (hk:¬ (k<l.length/\c<=65536)) (h:r=oz f (l.drop k) c):r=c:=by
 rw [h];by_cases hl:k<l.length
 ·have hc:¬ c<=65536:=λhc=>hk ⟨hl,hc⟩;rw [lX hl];unfold oz;rw [if_neg hc]
 rw [List.drop_of_length_le (by omega)];rfl
theorem Zy {α:Type} {f:α->Nat->Nat} {l:List (Ins α)} {k c r:Nat} {x:Ins α} (hx:l[k]?=some x) (hc:c<=65536) (h:r=oz f (l.drop k) c):r=oz f (l.drop (k+1)) (f x.els (f x.body (c+1))):=by
 have hl:k<l.length:=(fZ.1 hx).1;have he:l[k]=x:=(fZ.1 hx).2;rw [h,lX hl,he]
 conv=>lhs;unfold oz
 rw [if_pos hc]
theorem Ny (o:Option Addr) (cap c:Nat) (w:World) (hc:c<=65537) :
  Calls prog 86 #[.slice o 0 cap,.int .i64 c] w λe w'=>e=.returned (.int .i64 (c:Nat))/\∃m,w'=w.drewN m:=by
 go_enter func86,ntmps86;go_wp2_with fail;go_loopw [1,5] (λu i wr=>u=.int .i64 c/\i=.int .i64 0/\wr=w) (λ_ _ _=>0)
 case atStart=>exact ⟨rfl,rfl,rfl⟩
 case round =>
  obtain ⟨rfl,rfl,rfl⟩:=hrel;go_wp2;go_ret;exact ⟨rfl,0,rfl⟩
def Nz (d:Nat):Prop:=∀(v:Value) (l:IL d) (c:Nat) (w:World),At w d v l->c<=65537 ->
  Calls prog 86 #[v,.int .i64 c] w λe w'=>e=.returned (.int .i64 (cnt d l c:Nat))/\∃m,w'=w.drewN m
theorem Zz (d:Nat) (IH:Nz d) (v:Value) (l:List (Ins (IL d))) (c:Nat) (w:World) (hAt:Row 7 (fA w (At w d)) v l) (hc:c<=65537) :
  Calls prog 86 #[v,.int .i64 c] w λe w'=>e=.returned (.int .i64 (oz (cnt d) l c:Nat))/\∃m,w'=w.drewN m:=by
 have hlen:=hAt.1;by_cases hz:l.length=0
 ·obtain ⟨o,cap,rfl⟩:=hAt.len;rw [hz];obtain rfl:l = []:=mM.1 hz;exact Ny o cap c w hc
 obtain ⟨b,off,cap,rfl,hx⟩:=hAt.some (by omega);obtain ⟨R,hR⟩:∃R,R=oz (cnt d) l c:=⟨_,rfl⟩;rw [<- hR];have HR:Hid (R=oz (cnt d) (l.drop 0) c):=hR;have HX:=aa hx;clear hx hAt hR;generalize hn:l.length=n at *;go_enter func86,ntmps86;go_wp2_with fail;go_loopw [1,5] (λu i wr=>∃k ck m:Nat,k<=n/\ck<=65537/\u=.int .i64 ck/\i=.int .i64 k/\R=oz (cnt d) (l.drop k) ck/\wr=w.drewN m) (λ_ i _=>n-(RowKit.intOf i).toNat)
 case atStart=>exact ⟨0,c,0,by omega,hc,rfl,rfl,HR.out,rfl⟩
 case round =>
  obtain ⟨k,ck,m,hk,hck,rfl,rfl,hrr,rfl⟩:=hrel;have HK:=aa hrr;clear hrr;by_cases hgo:k<n/\ck<=65536
  ·obtain ⟨x,hxk⟩:∃x,l[k]?=some x:=⟨_,aY (by omega)⟩;have hI:=HX.out k x hxk;obtain ⟨vb,cb,ab⟩:=hI.body;obtain ⟨ve,ce,ae⟩:=hI.els;have HN:=aa (Zy hxk hgo.2 HK.out);have aaV:=AR d x.body (ck+1);have hle2:=AR d x.els (cnt d x.body (ck+1));have e1:((ck+1:Nat):Int)=(ck:Int)+1:=by omega
   have i1:=λ(j:Nat)=>aa (Nw (IH vb x.body (ck+1) (w.drewN (m+j)) (At.on (yd w _) _ _ _ ab) (by omega)));have i2:=λ(j:Nat)=>aa (Nw (IH ve x.els (cnt d x.body (ck+1)) (w.drewN (m+j)) (At.on (yd w _) _ _ _ ae) (by omega)));rw [e1] at i1;clear e1;clear hI hxk ab ae HK;generalize cnt d x.body (ck+1)=c1 at *;generalize cnt d x.els c1=c2 at *;have hg1:k<n:=hgo.1;have hg2:ck<=65536:=hgo.2;clear hgo;go_wp2_with fail;go_quiet (first|(go_at_call_of 86 vb;exact (i1 _).out)|(go_at_call_of 86 ve;exact (i2 _).out))
   go_wp2;go_roundw
   case rel=>exact ⟨k+1,c2,m+nq,by omega,by omega,rfl,by go_num,HN.out,rfl⟩
   case measure=>simp [RowKit.intOf];omega
  have HE:=aa (Zx (by omega) HK.out);by_cases hkn:k<n
  ·have hb:decide ((ck:Int)<=65536)=false:=by simp;omega
   go_wp2;go_ret;exact ⟨by rw [HE.out];rfl,m,rfl⟩
  go_wp2;go_ret;exact ⟨by rw [HE.out];rfl,m,rfl⟩
theorem LQ:∀(d:Nat),Nz d
 | 0=>λv l c w ⟨o,cap,hv⟩ hc=>by
  subst hv;exact Ny o cap c w hc
 | d+1=>λv l c w hAt hc=>Zz d (LQ d) v l c w hAt hc
end Go.Proofs.YtmfcojpjpgldhaaGreatDoor
namespace Go.Proofs.YtmfcojpjpgldhaaGreatDoor
open Go.RowKit aA
set_option linter.unusedVariables false
theorem ky {w u v:World} (h:Below w.heap.size w u) (k:Below u.heap.size u v):Below w.heap.size w v:=h.trans (k.mono h.size)
theorem aU (w:World) (o:Obj):Below w.heap.size w (w.alloc o):=(Below.refl _ w).alloc (aI _) o
theorem Ba (w:World):Below w.heap.size w w.drew:=(Below.refl _ w).drew
section App
variable {P:Program}
theorem Vr (w:World) (base:Nat) (t ty e:TypeId) (i:TypeInfo) (z:Value) (size bytes:Nat) (ht:P.underlying t=some (.slice e)) (hi:P.info? e=some i) (hz:i.zero=some z)
  (hsize:i.size=size) (hby:i.bytes=bytes) (hzs:z.cells.size=size) (hsz:0<size)
  (v:Value) (n:Nat) (xs:List Value) (hown:w.ownsRow base e size v n xs)
  (a:Addr) (m c:Nat) (news:List Value) (hl:news.length=m*size) (hnews:∀j u,news[j]?=some u->w.cell? (a.add j)=some u) (h1:∀u ∈ news,u.oneCell'=true)
  (h63:n+m<=maxLen) (hbytes:(n+m)*bytes<=140737488355328) (hbase:base<=w.heap.size) :
  ∃v' w',(Builtin.append_ #[t,t] ty #[v,.slice (some a) m c]).run P w=.ok v' w'/\w'.ownsRow base e size v' (n+m) (xs++news)/\w.grownBy w' v.ownBlock /\
   (v'.ownBlock=v.ownBlock\/v'.ownBlock=some w.heap.size):=by
 obtain ⟨v',w',hr,h2,h3,h4⟩:=run_append_own (P:=P) w base t ty e i z size bytes ht hi hz hsize hby hzs hsz v n xs hown a m c news hl hnews h1 h63 hbytes hbase;refine ⟨v',w',hr,h2,h3,?_⟩;subst hsize;subst hby;unfold maxLen at h63;rcases hown.2 with ⟨rfl,rfl⟩|⟨g,cap,cur,rfl,hbg,hg,hnc,hcm,hcs,htake⟩
 ·by_cases hm:m=0
  ·left;rw [h4.2 ⟨rfl,hm⟩]
  rw [run_append_nil (P:=P) w t ty e i z ht hi hz a m c news hl hnews (by omega) (by omega) (by simp only [Nat.zero_add] at hbytes;omega)] at hr;injection hr with hv _;right;rw [<- hv];rfl
 by_cases hroom:n+m<=cap
 ·have hfit:n*i.size+news.length<=cur.size:=by rw [hl,hcs,<- Nat.add_mul];exact Nat.mul_le_mul_right _ hroom
  rw [run_append_room (P:=P) w t ty e i ht hi g n cap cur hg a m c news hl hnews h1 hroom hfit] at hr;injection hr with hv _;left;rw [<- hv];rfl
 have holds:∀j u,xs[j]?=some u->w.cell? ((⟨g,0,none⟩:Addr).add j)=some u:=hown.cells (g:=g) rfl;rw [run_append_grow (P:=P) w t ty e i z ht hi hz ⟨g,0,none⟩ n cap xs hown.1 holds a m c news hl hnews (by omega) (by omega) (growslice_fits (by omega) hbytes)] at hr;injection hr with hv _;right;rw [<- hv];rfl
theorem LK (w:World) (base:Nat) (t ty e:TypeId) (i:TypeInfo) (size:Nat) (ht:P.underlying t=some (.slice e)) (hi:P.info? e=some i) (v:Value) (n:Nat) (xs:List Value) (hown:w.ownsRow base e size v n xs) (c:Nat) :
  (Builtin.append_ #[t,t] ty #[v,.slice none 0 c]).run P w=.ok v w:=by
 rcases hown.2 with ⟨rfl,rfl⟩|⟨g,cap,cur,rfl,_,_,hnc,_⟩
 ·simp [Builtin.append_,run_underlying ht,sizeOf,typeInfo,hi,Builtin.lenOf,Builtin.firstCells]
 simp [Builtin.append_,run_underlying ht,sizeOf,typeInfo,hi,Builtin.lenOf,Builtin.firstCells,hnc,storeCells]
theorem FY (w:World) (base:Nat) (t ty e:TypeId) (i:TypeInfo) (z:Value) (size bytes:Nat) (ht:P.underlying t=some (.slice e)) (hi:P.info? e=some i) (hz:i.zero=some z)
  (hsize:i.size=size) (hby:i.bytes=bytes) (hzs:z.cells.size=size) (hsz:0<size)
  (v:Value) (n:Nat) (xs:List Value) (hown:w.ownsRow base e size v n xs)
  (xo:Option Addr) (m c:Nat) (news:List Value) (yK:xo=none->m=0) (hl:news.length=m*size) (hnews:∀ad,xo=some ad->∀j u,news[j]?=some u->w.cell? (ad.add j)=some u) (h1:∀u ∈ news,u.oneCell'=true)
  (h63:n+m<=maxLen) (hbytes:(n+m)*bytes<=140737488355328) (hbase:base<=w.heap.size) :
  ∃v' w',(Builtin.append_ #[t,t] ty #[v,.slice xo m c]).run P w=.ok v' w'/\w'.ownsRow base e size v' (n+m) (xs++news)/\w.grownBy w' v.ownBlock /\
   (v'.ownBlock=v.ownBlock\/v'.ownBlock=some w.heap.size):=by
 cases xo with
 | none =>
  obtain rfl:=yK rfl;obtain rfl:news = []:=List.eq_nil_of_length_eq_zero (by simpa using hl);refine ⟨v,w,LK w base t ty e i size ht hi v n xs hown c,by simpa using hown,⟨rfl,rfl,rfl,aI _,λ_ _ _=>rfl⟩,.inl rfl⟩
 | some a=>exact Vr w base t ty e i z size bytes ht hi hz hsize hby hzs hsz v n xs hown a m c news hl (hnews a rfl) h1 h63 hbytes hbase
theorem rX {w:World} {ops:Array Oper} {rest:List Oper} {o:Oper} {a:Act} {Q:Exit->Act->World->Prop} (hgd:o.guard=none) (s x:Operand) (t:TypeId)
  (ho:o.op=.call { callee:=.builtin .append,args:=#[s,x],argTypes:=#[t,t] })
  (base:Nat) (e:TypeId) (i:TypeInfo) (z:Value) (size bytes:Nat) (ht:P.underlying t=some (.slice e)) (hi:P.info? e=some i) (hz:i.zero=some z)
  (hsize:i.size=size) (hby:i.bytes=bytes) (hzs:z.cells.size=size) (hsz:0<size)
  (v:Value) (n:Nat) (xs:List Value) (hs:a.eval s=v) (hown:w.ownsRow base e size v n xs)
  (xo:Option Addr) (m c:Nat) (news:List Value) (hx:a.eval x=.slice xo m c) (yK:xo=none->m=0) (hl:news.length=m*size) (hnews:∀ad,xo=some ad->∀j u,news[j]?=some u->w.cell? (ad.add j)=some u) (h1:∀u ∈ news,u.oneCell'=true)
  (h63:n+m<=maxLen) (hbytes:(n+m)*bytes<=140737488355328) (hbase:base<=w.heap.size)
  (h:∀v' w',w'.ownsRow base e size v' (n+m) (xs++news)->w.grownBy w' v.ownBlock->(v'.ownBlock=v.ownBlock\/v'.ownBlock=some w.heap.size)->wpList P ops Q rest (a.put o.dst v') w'):wpList P ops Q (o :: rest) a w:=by
 refine wpList_plain hgd λK hK=>?_;obtain ⟨v',w',hr,h2,h3,h4⟩:=FY w base t o.type e i z size bytes ht hi hz hsize hby hzs hsz v n xs hown xo m c news yK hl hnews h1 h63 hbytes hbase;unfold Oper.wp;simp [execOp,ho,resolve,invoke,builtin,hs,hx,hr,Result.andThen];exact hK _ _ (h v' w' h2 h3 h4)
end App
namespace aA
def tT (w:World) (S:Nat->Prop) (v:Value) (l:List Int):Prop:=Row 1 (λb o (z:Int)=>S b/\w.cell? ⟨b,o,none⟩=.some (.int .i64 z)) v l
structure Vs {α:Type} (w:World) (S:Nat->Prop) (sub:Value->α->Prop) (bk o:Nat) (x:Ins α):Prop where
 op:w.cell? ⟨bk,o,none⟩=.some (.int .i64 x.op)
 a:w.cell? ⟨bk,o+1,none⟩=.some (.int .i64 x.a)
 b:w.cell? ⟨bk,o+2,none⟩=.some (.int .i64 x.b)
 n:w.cell? ⟨bk,o+3,none⟩=.some (.int .i64 x.n)
 labels:∃v,w.cell? ⟨bk,o+4,none⟩=.some v/\tT w S v x.labels
 body:∃v,w.cell? ⟨bk,o+5,none⟩=.some v/\sub v x.body
 els:∃v,w.cell? ⟨bk,o+6,none⟩=.some v/\sub v x.els
def jG (w:World) (S:Nat->Prop):(d:Nat)->Value->IL d->Prop
 | 0,v,_=>∃o cap,v=.slice o 0 cap
 | d+1,v,l=>Row 7 (λb o (x:Ins (IL d))=>S b/\Vs w S (jG w S d) b o x) v l
theorem tT.at {w:World} {S:Nat->Prop} {v:Value} {l:List Int} (h:tT w S v l):Ints w v l:=Row.imp h λ_ _ _ _ h=>h.2
theorem jG.at {w:World} {S:Nat->Prop}:∀(d:Nat) (v:Value) (l:IL d),jG w S d v l->At w d v l
 | 0,_,_,h=>h
 | d+1,_,_,h=>Row.imp (α:=Ins (IL d)) h λ_ _ _ _ ⟨_,h⟩=>⟨h.op,h.a,h.b,h.n,let ⟨v,a,b⟩:=h.labels;⟨v,a,b.at⟩,let ⟨v,a,b⟩:=h.body;⟨v,a,jG.at d v _ b⟩,let ⟨v,a,b⟩:=h.els;⟨v,a,jG.at d v _ b⟩⟩
theorem yM {w w':World} {S S':Nat->Prop} (hk:∀k,S k->S' k/\w'.heap[k]?=w.heap[k]?) {b o:Nat} {u:Value} (hb:S b) (h:w.cell? ⟨b,o,none⟩=.some u):w'.cell? ⟨b,o,none⟩=.some u :=
 (World.cell?_of_block (a:=⟨b,o,none⟩) (hk b hb).2).trans h
theorem tT.keep {w w':World} {S S':Nat->Prop} (hk:∀k,S k->S' k/\w'.heap[k]?=w.heap[k]?) {v:Value} {l:List Int} (h:tT w S v l):tT w' S' v l :=
 Row.imp h λb _ _ _ h=>⟨(hk b h.1).1,yM hk h.1 h.2⟩
theorem jG.keep {w w':World} {S S':Nat->Prop} (hk:∀k,S k->S' k/\w'.heap[k]?=w.heap[k]?):∀(d:Nat) (v:Value) (l:IL d),jG w S d v l->jG w' S' d v l
 | 0,_,_,h=>h
 | d+1,_,_,h=>Row.imp (α:=Ins (IL d)) h λb _ _ _ ⟨hb,h⟩=>⟨(hk b hb).1,yM hk hb h.op,yM hk hb h.a,yM hk hb h.b,yM hk hb h.n,let ⟨v,a,c⟩:=h.labels;⟨v,yM hk hb a,c.keep hk⟩,let ⟨v,a,c⟩:=h.body;⟨v,yM hk hb a,jG.keep hk d v _ c⟩,let ⟨v,a,c⟩:=h.els;⟨v,yM hk hb a,jG.keep hk d v _ c⟩⟩
def Since (B:Nat) (w:World) (row:Option Nat) (k:Nat):Prop:=B<=k/\k<w.heap.size/\some k≠row
theorem LL {B:Nat} {w w':World} {row:Option Nat} (hb:Below w.heap.size w w'):∀k,Since B w row k->Since B w' row k/\w'.heap[k]?=w.heap[k]?:=λk hk =>
 ⟨⟨hk.1,nH hk.2.1 hb.size,hk.2.2⟩,hb.block k hk.2.1⟩
theorem Vt {B:Nat} {w w':World} {v v':Value} (hg:w.grownBy w' v.ownBlock) (hv:v'.ownBlock=v.ownBlock\/v'.ownBlock=some w.heap.size):∀k,Since B w v.ownBlock k->Since B w' v'.ownBlock k/\w'.heap[k]?=w.heap[k]?:=λk hk=>by
 refine ⟨⟨hk.1,nH hk.2.1 hg.size,?_⟩,hg.block k hk.2.1 hk.2.2⟩;rcases hv with h|h
 ·rw [h];exact hk.2.2
 rw [h];intro e;injection e with e
 have:=hk.2.1
 omega
end aA
theorem count_set {l:Array Bool} {i:Nat} (h:l.getD i true=false):(l.setIfInBounds i true).toList.count false+1=l.toList.count false:=by
 have hi:i<l.size:=by
  rcases Nat.lt_or_ge i l.size with h'|h'
  ·exact h'
  simp [Array.getD,Nat.not_lt.2 h'] at h
 have he:l[i]=false:=by simpa [Array.getD,hi] using h
 have hl:l.toList=l.toList.take i++false :: l.toList.drop (i+1):=by
  rw [<- he]
  have:i<l.toList.length:=by simpa using hi
  conv=>lhs;rw [<- List.take_append_drop i l.toList,lX this]
  simp
 have hs:(l.setIfInBounds i true).toList=l.toList.take i++true :: l.toList.drop (i+1):=by
  rw [Array.toList_setIfInBounds,List.set_eq_take_append_cons_drop,if_pos (by simpa using hi)]
 have e1:=congrArg (List.count false) hl;have e2:=congrArg (List.count false) hs;rw [List.count_append,List.count_cons_self] at e1;rw [List.count_append,List.count_cons_of_ne (by simp)] at e2;omega
theorem Ya {P:Program} {md:Region.Mode} {ops:Array Oper} {Q:Exit->Act->World->Prop} (Inv:Array Bool->Act->World->Prop)
  (hstep:∀listed i a w,i ∈ Region.ready md ops listed->Inv listed a w->wpOp P ops Q i (Inv (listed.setIfInBounds i true)) a w)
  (hdone:∀listed a w,Region.ready md ops listed = []->Inv listed a w->Q .normal a w) :
  ∀(fuel:Nat) (listed:Array Bool) (a:Act) (w:World),listed.toList.count false<=fuel->Inv listed a w->wpAny P md ops Q fuel listed a w:=by
 intro fuel
 induction fuel with
 | zero =>
  intro listed a w hc hI
  have hr:Region.ready md ops listed = []:=by
   cases hrr:Region.ready md ops listed with
   | nil=>rfl
   | cons i r =>
    have hm:i ∈ Region.ready md ops listed:=by rw [hrr];simp
    have:=count_set (mem_ready.1 hm).1
    omega
  exact ⟨hr,hdone _ _ _ hr hI⟩
 | succ fuel ih =>
  intro listed a w hc hI;refine ⟨λhr=>hdone _ _ _ hr hI,λi hi=>?_⟩;refine wpOp_mono (λa' w' h=>ih _ a' w' ?_ h) (hstep listed i a w hi hI)
  have:=count_set (mem_ready.1 hi).1
  omega
theorem Ex {P:Program} {ops:Array Oper} {Q:Exit->Act->World->Prop} {id:Nat} {a:Act} {w:World} (Inv:Array Bool->Act->World->Prop) (hm:P.follows .mixedOrders=true)
  (hstep:∀listed i a w,i ∈ Region.ready .any ops listed->Inv listed a w->wpOp P ops Q i (Inv (listed.setIfInBounds i true)) a w)
  (hdone:∀listed a w,Region.ready .any ops listed = []->Inv listed a w->Q .normal a w)
  (h0:Inv (Array.replicate ops.size false) a { w with drawn:=w.drawn+1 }):(Code.region id ops true).wp P Q a w :=
 wp_region_any hm (Ya Inv hstep hdone _ _ _ _ (by simp) h0)
end Go.Proofs.YtmfcojpjpgldhaaGreatDoor
