/- Texts that the claim needs. -/
import Derived.Test.YthfapccopngfhaaDoorQDex0
import Derived.Deep.RegionWith
import Derived.Laws.AppendOwn
import Derived.Laws.AppendOwnNone
import Derived.OwnWalk
import Derived.ProofKit
import Derived.OpenShut
import Derived.Lib.SmallJoins
namespace Go.Proofs.YthfapccopngfhaaDoor
open Go.RowKit Rep Dec
set_option linter.unusedVariables false
namespace Dec
theorem uRead_at32 (s:ByteArray) (a:Nat) (h:(Leb.uRead s a 32).2.2=0):(a:Int)<(Leb.uRead s a 32).2.1/\(Leb.uRead s a 32).2.1<=s.size/\0<=(Leb.uRead s a 32).1/\(Leb.uRead s a 32).1<=4294967295:=by
 unfold Leb.uRead at h ⊢
 by_cases hask:Leb.asks s.size a 32=true
 ·rw [if_pos hask] at h ⊢
  unfold Leb.uOut at h ⊢
  have hq:=Leb.asks_yes hask
  have hg:=Leb.grp_some (Leb.from_ s (a:Int).toNat) (s.size-(a:Int).toNat) (Leb.most 32)
  generalize Leb.grp (Leb.from_ s (a:Int).toNat) (s.size-(a:Int).toNat) (Leb.most 32)=k at *
  unfold Leb.uFin at h ⊢
  split at h
  ·exact absurd h (by decide)
  ·rename_i hc
   rw [if_neg hc]
   have hk:k≠0:=fun e=>hc (.inl e)
   obtain ⟨h1,h2,h3,_⟩:=hg hk
   have hv:=(Leb.val_bd (Leb.from_ s (a:Int).toNat) k).1
   have hm:¬ 4294967295<Leb.val (Leb.from_ s (a:Int).toNat) k:=fun e=>hc (.inr (.inl ⟨rfl,e⟩))
   exact ⟨by show (a:Int)<(a:Int)+k;omega,by show (a:Int)+k<=s.size;omega,hv,by omega⟩
 ·rw [if_neg hask] at h;exact absurd h (by decide)
theorem sRead_at (s:ByteArray) (a:Nat) (bits:Int) (h:(Leb.sRead s a bits).2.2=0):(a:Int)<(Leb.sRead s a bits).2.1/\(Leb.sRead s a bits).2.1<=s.size/\-9223372036854775808<=(Leb.sRead s a bits).1/\(Leb.sRead s a bits).1<=9223372036854775807/\(bits=32->-2147483648<=(Leb.sRead s a bits).1/\(Leb.sRead s a bits).1<=2147483647):=by
 unfold Leb.sRead at h ⊢
 by_cases hask:Leb.asks s.size a bits=true
 ·rw [if_pos hask] at h ⊢
  unfold Leb.sOut at h ⊢
  have hq:=Leb.asks_yes hask
  have hg:=Leb.grp_some (Leb.from_ s (a:Int).toNat) (s.size-(a:Int).toNat) (Leb.most bits)
  have hm10:Leb.most bits<=10:=by rcases hq.1 with rfl|rfl<;>decide
  generalize Leb.grp (Leb.from_ s (a:Int).toNat) (s.size-(a:Int).toNat) (Leb.most bits)=k at *
  unfold Leb.sFin at h ⊢
  split at h
  ·exact absurd h (by decide)
  ·rename_i hc
   rw [if_neg hc]
   have hk:k≠0:=fun e=>hc (.inl e)
   obtain ⟨h1,h2,h3,_⟩:=hg hk
   have h9:k=10->Leb.from_ s (a:Int).toNat 9=0\/Leb.from_ s (a:Int).toNat 9=127:=fun e=>by
    by_cases h0:Leb.from_ s (a:Int).toNat 9=0
    ·exact .inl h0
    ·by_cases h7:Leb.from_ s (a:Int).toNat 9=127
     ·exact .inr h7
     ·exact absurd (.inr (.inr ⟨e,h0,h7⟩)) hc
   have hb:=Leb.sval_bd (Leb.from_ s (a:Int).toNat) k h1 (by
    by_cases e:k=10
    ·exact .inr ⟨e,h9 e⟩
    ·exact .inl (by omega))
   refine ⟨by show (a:Int)<(a:Int)+k;omega,by show (a:Int)+k<=s.size;omega,hb.1,hb.2,fun e=>?_⟩
   have h32:¬ (Leb.sval (Leb.from_ s (a:Int).toNat) k < -2147483648\/2147483647<Leb.sval (Leb.from_ s (a:Int).toNat) k):=fun h=>hc (.inr (.inl ⟨e,h⟩))
   show -2147483648<=Leb.sval (Leb.from_ s (a:Int).toNat) k/\Leb.sval (Leb.from_ s (a:Int).toNat) k<=2147483647
   omega
 ·rw [if_neg hask] at h;exact absurd h (by decide)
theorem nx_ok {s:ByteArray} {en i:Nat} {x:Int} {j:Nat} (h:nx s en i=.ok (x,j)):j=i+1/\i<en/\0<=x/\x<=255:=by
 unfold nx at h
 split at h
 ·injection h with h;injection h with h1 h2
  have:=Leb.bt_bd s i
  subst h1;exact ⟨h2.symm,by assumption,this.1,this.2⟩
 ·cases h
theorem ru_ok {s:ByteArray} {en i:Nat} {x:Int} {j:Nat} (he:en<=s.size) (h:ru s en i=.ok (x,j)):i<j/\j<=en/\0<=x/\x<=4294967295:=by
 unfold ru at h
 split at h
 ·rename_i h0
  obtain ⟨h1,h2,h3,h4⟩:=uRead_at32 _ i h0
  injection h with h;injection h with h5 h6
  rw [ByteArray.size_extract] at h2
  subst h5
  exact ⟨by omega,by omega,h3,h4⟩
 ·cases h
theorem rs_ok {s:ByteArray} {en i:Nat} {bits x:Int} {j:Nat} (he:en<=s.size) (h:rs s en bits i=.ok (x,j)):i<j/\j<=en/\-9223372036854775808<=x/\x<=9223372036854775807/\(bits=32->-2147483648<=x/\x<=2147483647):=by
 unfold rs at h
 split at h
 ·rename_i h0
  obtain ⟨h1,h2,h3,h4,h7⟩:=sRead_at _ i bits h0
  injection h with h;injection h with h5 h6
  rw [ByteArray.size_extract] at h2
  subst h5
  exact ⟨by omega,by omega,h3,h4,h7⟩
 ·cases h
theorem bd_in {α β:Type} {x:R α} {f:α->Nat->R β} {b:β} {m:Nat} (h:bd x f=.ok (b,m)):∃a i,x=.ok (a,i)/\f a i=.ok (b,m):=by
 unfold bd at h
 cases x with
 | error e=>cases h
 | ok v=>obtain ⟨a,i⟩:=v;exact ⟨a,i,rfl,h⟩
theorem bd2_in {α β:Type} {x:R2 α} {f:α->Nat->Nat->R2 β} {b:β} {m n:Nat} (h:bd2 x f=.ok (b,m,n)):∃a i k,x=.ok (a,i,k)/\f a i k=.ok (b,m,n):=by
 unfold bd2 at h
 cases x with
 | error e=>cases h
 | ok v=>obtain ⟨a,i,k⟩:=v;exact ⟨a,i,k,rfl,h⟩
theorem lift_in {α:Type} {x:R α} {n:Nat} {a:α} {m k:Nat} (h:lift x n=.ok (a,m,k)):x=.ok (a,m)/\k=n:=by
 unfold lift at h
 cases x with
 | error e=>cases h
 | ok v=>obtain ⟨b,i⟩:=v;injection h with h;injection h with h1 h2;injection h2 with h2 h3;subst h1 h2;exact ⟨rfl,h3.symm⟩
theorem must_ok {s:ByteArray} {en i:Nat} {b:Int} {u:Unit} {j:Nat} (h:must s en b i=.ok (u,j)):j=i+1/\i<en/\Leb.bt s i=b:=by
 obtain ⟨x,m,h1,h2⟩:=bd_in h
 have h3:=nx_ok h1
 split at h2
 ·rename_i hx
  injection h2 with h2;injection h2 with _ h2
  unfold nx at h1
  rw [if_pos h3.2.1] at h1
  injection h1 with h1;injection h1 with h1 _
  exact ⟨by omega,h3.2.1,h1.trans hx⟩
 ·cases h2
theorem vty_ok {b x:Int} {i j:Nat} (h:vty b i=.ok (x,j)):x=b/\j=i/\(x=126\/x=127):=by
 unfold vty at h
 split at h
 ·cases h
 split at h
 ·injection h with h;injection h with h1 h2;subst h1 h2;exact ⟨rfl,rfl,by omega⟩
 ·cases h
theorem rres_ok {s:ByteArray} {en i:Nat} {x:Int} {j:Nat} (h:rres s en i=.ok (x,j)):j=i+1/\i<en/\(x=0\/x=126\/x=127):=by
 obtain ⟨b,m,h1,h2⟩:=bd_in h
 have h3:=nx_ok h1
 split at h2
 ·injection h2 with h2;injection h2 with h4 h5;exact ⟨by omega,h3.2.1,.inl h4.symm⟩
 ·have:=vty_ok h2;exact ⟨by omega,h3.2.1,.inr this.2.2⟩
theorem rc_ok {s:ByteArray} {en i:Nat} {x:Int} {j:Nat} (he:en<=s.size) (h:rc s en i=.ok (x,j)):i<j/\j<=en/\0<=x/\x<=4096:=by
 obtain ⟨b,m,h1,h2⟩:=bd_in h
 have h3:=ru_ok he h1
 split at h2
 ·injection h2 with h2;injection h2 with h4 h5;subst h4 h5;exact ⟨h3.1,h3.2.1,h3.2.2.1,by assumption⟩
 ·cases h2
theorem rep_ok {s:ByteArray} {en:Nat} (he:en<=s.size):∀(k i:Nat) (l:List Int) (j:Nat),i<=en->rep (ru s en) k i=.ok (l,j)->i<=j/\j<=en/\l.length=k/\∀x ∈ l,0<=x/\x<=4294967295
 | 0,i,l,j,hi,h=>by injection h with h;injection h with h1 h2;subst h1 h2;exact ⟨Nat.le_refl _,hi,rfl,fun x hx=>by cases hx⟩
 | k+1,i,l,j,hi,h=>by
  obtain ⟨x,m,h1,h2⟩:=bd_in h
  obtain ⟨r,q,h3,h4⟩:=bd_in h2
  have h5:=ru_ok he h1
  have h6:=rep_ok he k m r q h5.2.1 h3
  injection h4 with h4;injection h4 with h7 h8;subst h7 h8
  refine ⟨by omega,h6.2.1,by simp [h6.2.2.1],fun y hy=>?_⟩
  rcases List.mem_cons.1 hy with rfl|hy
  ·exact h5.2.2
  ·exact h6.2.2.2 y hy
theorem rl_ok {s:ByteArray} {en i:Nat} {l:List Int} {j:Nat} (he:en<=s.size) (h:rl s en i=.ok (l,j)):i<j/\j<=en/\l.length<=4096/\∀x ∈ l,0<=x/\x<=4294967295:=by
 obtain ⟨n,m,h1,h2⟩:=bd_in h
 have h3:=rc_ok he h1
 have h4:=rep_ok he _ m l j h3.2.1 h2
 exact ⟨by omega,h4.2.1,by omega,h4.2.2.2⟩
theorem rsim_ok {α:Type} {z:α} {s:ByteArray} {en:Nat} {op:Int} {i:Nat} {x:Ins α} {j:Nat} (he:en<=s.size) (hi:i<=en) (h:rsim z s en op i=.ok (x,j)):i<=j/\j<=en:=by
 unfold rsim at h
 simp only at h
 split at h
 ·split at h
  ·obtain ⟨u,m,h1,h2⟩:=bd_in h
   have:=must_ok h1
   injection h2 with h2;injection h2 with _ h2
   omega
  ·injection h with h;injection h with _ h;omega
 split at h
 ·obtain ⟨u,m,h1,h2⟩:=bd_in h
  have:=ru_ok he h1
  injection h2 with h2;injection h2 with _ h2
  omega
 split at h
 ·obtain ⟨u,m,h1,h2⟩:=bd_in h
  have:=rl_ok he h1
  obtain ⟨u,q,h3,h4⟩:=bd_in h2
  have:=ru_ok he h3
  injection h4 with h4;injection h4 with _ h4
  omega
 split at h
 ·obtain ⟨u,m,h1,h2⟩:=bd_in h
  have:=ru_ok he h1
  obtain ⟨u,q,h3,h4⟩:=bd_in h2
  have:=must_ok h3
  injection h4 with h4;injection h4 with _ h4
  omega
 split at h
 ·obtain ⟨u,m,h1,h2⟩:=bd_in h
  have:=ru_ok he h1
  obtain ⟨u,q,h3,h4⟩:=bd_in h2
  have:=ru_ok he h3
  injection h4 with h4;injection h4 with _ h4
  omega
 split at h
 ·obtain ⟨u,m,h1,h2⟩:=bd_in h
  have:=rs_ok he h1
  injection h2 with h2;injection h2 with _ h2
  omega
 ·injection h with h;injection h with _ h;omega
def Fwd {α:Type} (en:Nat) (f:Nat->Nat->R2 α):Prop:=∀i n a j m,i<=en->f i n=.ok (a,j,m)->i<j/\j<=en
theorem rblk_ok {α:Type} {z:α} {s:ByteArray} {en:Nat} {sub:Nat->Nat->R2 (α × Int)} (hs:Fwd en sub) {op:Int} {i n:Nat} {x:Ins α} {j m:Nat} (h:rblk z s en sub op i n=.ok (x,j,m)):i<j/\j<=en:=by
 unfold rblk at h
 obtain ⟨a,i1,n1,h1,h⟩:=bd2_in h
 have h2:=rres_ok (lift_in h1).1
 obtain ⟨b,i2,n2,h3,h⟩:=bd2_in h
 have h4:=hs _ _ _ _ _ (by omega) h3
 split at h
 ·obtain ⟨c,i3,n3,h5,h⟩:=bd2_in h
  have h6:=hs _ _ _ _ _ h4.2 h5
  split at h
  ·injection h with h;injection h with _ h;injection h with h _;omega
  ·cases h
 split at h
 ·injection h with h;injection h with _ h;injection h with h _;omega
 ·cases h
theorem rins_ok {d:Nat} {sub:Nat->Nat->R2 (IL d × Int)} {s:ByteArray} {en dep:Nat} (he:en<=s.size) (hs:Fwd en sub) {op:Int} {i n:Nat} {x:Ins (IL d)} {j m:Nat} (hi:i<=en) (h:rins sub s en dep op i n=.ok (x,j,m)):i<=j/\j<=en:=by
 unfold rins at h
 split at h
 ·cases h
 split at h
 ·have:=rblk_ok hs h;omega
 ·exact rsim_ok he hi (lift_in h).1
theorem rloop_ok {d:Nat} {sub:Nat->Nat->R2 (IL d × Int)} {s:ByteArray} {en dep:Nat} (he:en<=s.size) (hs:Fwd en sub):∀(f i n:Nat) (a:List (Ins (IL d)) × Int) (j m:Nat),i<=en->rloop sub s en dep f i n=.ok (a,j,m)->i<j/\j<=en
 | 0,_,_,_,_,_,_,h=>by cases h
 | f+1,i,n,a,j,m,hi,h=>by
  unfold rloop at h
  obtain ⟨op,i1,n1,h1,h⟩:=bd2_in h
  have h2:=nx_ok (lift_in h1).1
  split at h
  ·injection h with h;injection h with _ h;injection h with h _;omega
  ·obtain ⟨x,i2,n2,h3,h⟩:=bd2_in h
   have h4:=rins_ok he hs (by omega) h3
   obtain ⟨r,i3,n3,h5,h⟩:=bd2_in h
   have h6:=rloop_ok he hs f i2 n2 r i3 n3 h4.2 h5
   injection h with h;injection h with _ h;injection h with h _;omega
theorem rseq_fwd {s:ByteArray} {en:Nat} (he:en<=s.size):∀d dep,Fwd en (rseq s en d dep)
 | 0,dep=>fun i n a j m hi h=>by
  obtain ⟨op,i1,n1,h1,h⟩:=bd2_in h
  have h2:=nx_ok (lift_in h1).1
  split at h
  ·injection h with h;injection h with _ h;injection h with h _;omega
  ·cases h
 | d+1,dep=>fun i n a j m hi h=>rloop_ok he (rseq_fwd he d (dep+1)) _ i n a j m hi h
end Dec
end Go.Proofs.YthfapccopngfhaaDoor

namespace Go.Proofs.YthfapccopngfhaaDoor
open Go.RowKit Rep
set_option linter.unusedVariables false
def gave (k:Int):List PanicEntry:=[{ v:=.iface 24 (.int .i64 k),recovered:=false }]
def Needs (ok:Bool) (k:Int) (e:Ending):Prop:=(ok=true/\e=.returned (.tuple #[]))\/(ok=false/\e=.panicked (gave k))
theorem Needs.yes {k:Int} {e:Ending} (h:Needs true k e):e=.returned (.tuple #[]):=by rcases h with ⟨_,h⟩|⟨h,_⟩;exact h;cases h
theorem Needs.no {k:Int} {e:Ending} (h:Needs false k e):e=.panicked (gave k):=by rcases h with ⟨h,_⟩|⟨_,h⟩;cases h;exact h
end Go.Proofs.YthfapccopngfhaaDoor

namespace Go.Proofs.YthfapccopngfhaaDoor
open Go.RowKit Rep
namespace Rep
structure FT where
 params:List Int
 results:List Int
structure Imp where
 mod:ByteArray
 name:ByteArray
 type:Int
structure Fun (d:Nat) where
 type:Int
 locals:List Int
 body:IL d
structure Lim where
 min:Int
 max:Int
 has:Bool
structure Glo (d:Nat) where
 type:Int
 mtb:Bool
 init:Ins (IL d)
structure Exp where
 name:ByteArray
 kind:Int
 index:Int
structure Elm (d:Nat) where
 offset:Ins (IL d)
 funcs:List Int
structure Dat (d:Nat) where
 offset:Ins (IL d)
 bytes:ByteArray
structure Mod (d:Nat) where
 types:List FT
 imports:List Imp
 funcs:List (Fun d)
 tables:List Lim
 mems:List Lim
 globals:List (Glo d)
 exports:List Exp
 start:List Int
 elems:List (Elm d)
 datas:List (Dat d)
structure FTAt (w:World) (bk o:Nat) (x:FT):Prop where
 params:∃v,w.cell? ⟨bk,o,none⟩=.some v/\Ints w v x.params
 results:∃v,w.cell? ⟨bk,o+1,none⟩=.some v/\Ints w v x.results
structure ImpAt (w:World) (bk o:Nat) (x:Imp):Prop where
 mod:w.cell? ⟨bk,o,none⟩=.some (.string x.mod)
 name:w.cell? ⟨bk,o+1,none⟩=.some (.string x.name)
 type:w.cell? ⟨bk,o+2,none⟩=.some (.int .i64 x.type)
structure FunAt (w:World) (d:Nat) (bk o:Nat) (x:Fun d):Prop where
 type:w.cell? ⟨bk,o,none⟩=.some (.int .i64 x.type)
 locals:∃v,w.cell? ⟨bk,o+1,none⟩=.some v/\Ints w v x.locals
 body:∃v,w.cell? ⟨bk,o+2,none⟩=.some v/\At w d v x.body
structure LimAt (w:World) (bk o:Nat) (x:Lim):Prop where
 min:w.cell? ⟨bk,o,none⟩=.some (.int .i64 x.min)
 max:w.cell? ⟨bk,o+1,none⟩=.some (.int .i64 x.max)
 has:w.cell? ⟨bk,o+2,none⟩=.some (.bool x.has)
structure GloAt (w:World) (d:Nat) (bk o:Nat) (x:Glo d):Prop where
 type:w.cell? ⟨bk,o,none⟩=.some (.int .i64 x.type)
 mtb:w.cell? ⟨bk,o+1,none⟩=.some (.bool x.mtb)
 init:InsAt w (At w d) bk (o+2) x.init
structure ExpAt (w:World) (bk o:Nat) (x:Exp):Prop where
 name:w.cell? ⟨bk,o,none⟩=.some (.string x.name)
 kind:w.cell? ⟨bk,o+1,none⟩=.some (.int .i64 x.kind)
 index:w.cell? ⟨bk,o+2,none⟩=.some (.int .i64 x.index)
structure ElmAt (w:World) (d:Nat) (bk o:Nat) (x:Elm d):Prop where
 offset:InsAt w (At w d) bk o x.offset
 funcs:∃v,w.cell? ⟨bk,o+7,none⟩=.some v/\Ints w v x.funcs
structure DatAt (w:World) (d:Nat) (bk o:Nat) (x:Dat d):Prop where
 offset:InsAt w (At w d) bk o x.offset
 bytes:w.cell? ⟨bk,o+7,none⟩=.some (.string x.bytes)
structure ModAt (w:World) (d:Nat) (v0 v1 v2 v3 v4 v5 v6 v7 v8 v9:Value) (m:Mod d):Prop where
 types:Row 2 (FTAt w) v0 m.types
 imports:Row 3 (ImpAt w) v1 m.imports
 funcs:Row 3 (FunAt w d) v2 m.funcs
 tables:Row 3 (LimAt w) v3 m.tables
 mems:Row 3 (LimAt w) v4 m.mems
 globals:Row 9 (GloAt w d) v5 m.globals
 exports:Row 3 (ExpAt w) v6 m.exports
 start:Ints w v7 m.start
 elems:Row 8 (ElmAt w d) v8 m.elems
 datas:Row 8 (DatAt w d) v9 m.datas
section On
variable {w w':World} (hb:Below w.heap.size w w')
include hb
theorem FTAt.on {bk o:Nat} {x:FT} (h:FTAt w bk o x):FTAt w' bk o x :=
 ⟨let ⟨v,a,b⟩:=h.params;⟨v,cell_on hb a,b.on hb⟩,let ⟨v,a,b⟩:=h.results;⟨v,cell_on hb a,b.on hb⟩⟩
theorem ImpAt.on {bk o:Nat} {x:Imp} (h:ImpAt w bk o x):ImpAt w' bk o x:=⟨cell_on hb h.mod,cell_on hb h.name,cell_on hb h.type⟩
theorem FunAt.on {d bk o:Nat} {x:Fun d} (h:FunAt w d bk o x):FunAt w' d bk o x :=
 ⟨cell_on hb h.type,let ⟨v,a,b⟩:=h.locals;⟨v,cell_on hb a,b.on hb⟩,let ⟨v,a,b⟩:=h.body;⟨v,cell_on hb a,At.on hb d v _ b⟩⟩
theorem LimAt.on {bk o:Nat} {x:Lim} (h:LimAt w bk o x):LimAt w' bk o x:=⟨cell_on hb h.min,cell_on hb h.max,cell_on hb h.has⟩
theorem GloAt.on {d bk o:Nat} {x:Glo d} (h:GloAt w d bk o x):GloAt w' d bk o x:=⟨cell_on hb h.type,cell_on hb h.mtb,h.init.on hb (At.on hb d)⟩
theorem ExpAt.on {bk o:Nat} {x:Exp} (h:ExpAt w bk o x):ExpAt w' bk o x:=⟨cell_on hb h.name,cell_on hb h.kind,cell_on hb h.index⟩
theorem ElmAt.on {d bk o:Nat} {x:Elm d} (h:ElmAt w d bk o x):ElmAt w' d bk o x:=⟨h.offset.on hb (At.on hb d),let ⟨v,a,b⟩:=h.funcs;⟨v,cell_on hb a,b.on hb⟩⟩
theorem DatAt.on {d bk o:Nat} {x:Dat d} (h:DatAt w d bk o x):DatAt w' d bk o x:=⟨h.offset.on hb (At.on hb d),cell_on hb h.bytes⟩
theorem ModAt.on {d : Nat} {v0 v1 v2 v3 v4 v5 v6 v7 v8 v9 : Value} {m : Mod d} (h : ModAt w d v0 v1 v2 v3 v4 v5 v6 v7 v8 v9 m) : ModAt w' d v0 v1 v2 v3 v4 v5 v6 v7 v8 v9 m :=
  ⟨h.types.imp fun _ _ _ _ => FTAt.on hb, h.imports.imp fun _ _ _ _ => ImpAt.on hb, h.funcs.imp fun _ _ _ _ => FunAt.on hb, h.tables.imp fun _ _ _ _ => LimAt.on hb, h.mems.imp fun _ _ _ _ => LimAt.on hb,
   h.globals.imp fun _ _ _ _ => GloAt.on hb, h.exports.imp fun _ _ _ _ => ExpAt.on hb, h.start.on hb, h.elems.imp fun _ _ _ _ => ElmAt.on hb, h.datas.imp fun _ _ _ _ => DatAt.on hb⟩
end On
def size:(d:Nat)->IL d->Nat
 | 0,_=>0
 | _+1,l=>List.length l
theorem At.len {w:World}:∀(d:Nat) (v:Value) (l:IL d),At w d v l->∃o cap,v=.slice o (size d l) cap
 | 0,_,_,h=>h
 | _+1,_,_,h=>Row.len h
end Rep
end Go.Proofs.YthfapccopngfhaaDoor

namespace Go.Proofs.YthfapccopngfhaaDoor
open Go.RowKit Rep
set_option linter.unusedVariables false
theorem hideR {p:Prop} (h:p):Hid p:=h
end Go.Proofs.YthfapccopngfhaaDoor

namespace Go.Proofs.YthfapccopngfhaaDoor
open Go.RowKit Rep
set_option linter.unusedVariables false
theorem below_go' {w u v:World} (h:Below w.heap.size w u) (k:Below u.heap.size u v):Below w.heap.size w v:=h.trans (k.mono h.size)
theorem new_on' (w:World) (o:Obj):Below w.heap.size w (w.alloc o):=(Below.refl _ w).alloc (Nat.le_refl _) o
theorem drew_on (w:World):Below w.heap.size w w.drew:=(Below.refl _ w).drew
section App
variable {P:Program}
theorem run_app (w:World) (base:Nat) (t ty e:TypeId) (i:TypeInfo) (z:Value) (size bytes:Nat) (ht:P.underlying t=some (.slice e)) (hi:P.info? e=some i) (hz:i.zero=some z)
  (hsize:i.size=size) (hby:i.bytes=bytes) (hzs:z.cells.size=size) (hsz:0<size)
  (v:Value) (n:Nat) (xs:List Value) (hown:w.ownsRow base e size v n xs)
  (a:Addr) (m c:Nat) (news:List Value) (hl:news.length=m*size) (hnews:∀j u,news[j]?=some u->w.cell? (a.add j)=some u) (h1:∀u ∈ news,u.oneCell'=true)
  (h63:n+m<=maxLen) (hbytes:(n+m)*bytes<=140737488355328) (hbase:base<=w.heap.size) :
  ∃v' w',(Builtin.append_ #[t,t] ty #[v,.slice (some a) m c]).run P w=.ok v' w'/\w'.ownsRow base e size v' (n+m) (xs++news)/\w.grownBy w' v.ownBlock /\
   (v'.ownBlock=v.ownBlock\/v'.ownBlock=some w.heap.size):=by
 obtain ⟨v',w',hr,h2,h3,h4⟩:=run_append_own (P:=P) w base t ty e i z size bytes ht hi hz hsize hby hzs hsz v n xs hown a m c news hl hnews h1 h63 hbytes hbase
 refine ⟨v',w',hr,h2,h3,?_⟩
 subst hsize
 subst hby
 unfold maxLen at h63
 rcases hown.2 with ⟨rfl,rfl⟩|⟨g,cap,cur,rfl,hbg,hg,hnc,hcm,hcs,htake⟩
 ·by_cases hm:m=0
  ·left;rw [h4.2 ⟨rfl,hm⟩]
  ·rw [run_append_nil (P:=P) w t ty e i z ht hi hz a m c news hl hnews (by omega) (by omega) (by simp only [Nat.zero_add] at hbytes;omega)] at hr
   injection hr with hv _
   right;rw [<- hv];rfl
 ·by_cases hroom:n+m<=cap
  ·have hfit:n*i.size+news.length<=cur.size:=by rw [hl,hcs,<- Nat.add_mul];exact Nat.mul_le_mul_right _ hroom
   rw [run_append_room (P:=P) w t ty e i ht hi g n cap cur hg a m c news hl hnews h1 hroom hfit] at hr
   injection hr with hv _
   left;rw [<- hv];rfl
  ·have holds:∀j u,xs[j]?=some u->w.cell? ((⟨g,0,none⟩:Addr).add j)=some u:=hown.cells (g:=g) rfl
   rw [run_append_grow (P:=P) w t ty e i z ht hi hz ⟨g,0,none⟩ n cap xs hown.1 holds a m c news hl hnews (by omega) (by omega) (growslice_fits (by omega) hbytes)] at hr
   injection hr with hv _
   right;rw [<- hv];rfl
theorem run_app_none (w:World) (base:Nat) (t ty e:TypeId) (i:TypeInfo) (size:Nat) (ht:P.underlying t=some (.slice e)) (hi:P.info? e=some i) (v:Value) (n:Nat) (xs:List Value) (hown:w.ownsRow base e size v n xs) (c:Nat) :
  (Builtin.append_ #[t,t] ty #[v,.slice none 0 c]).run P w=.ok v w:=by
 rcases hown.2 with ⟨rfl,rfl⟩|⟨g,cap,cur,rfl,_,_,hnc,_⟩
 ·simp [Builtin.append_,run_underlying ht,sizeOf,typeInfo,hi,Builtin.lenOf,Builtin.firstCells]
 ·simp [Builtin.append_,run_underlying ht,sizeOf,typeInfo,hi,Builtin.lenOf,Builtin.firstCells,hnc,storeCells]
theorem run_appS (w:World) (base:Nat) (t ty e:TypeId) (i:TypeInfo) (z:Value) (size bytes:Nat) (ht:P.underlying t=some (.slice e)) (hi:P.info? e=some i) (hz:i.zero=some z)
  (hsize:i.size=size) (hby:i.bytes=bytes) (hzs:z.cells.size=size) (hsz:0<size)
  (v:Value) (n:Nat) (xs:List Value) (hown:w.ownsRow base e size v n xs)
  (xo:Option Addr) (m c:Nat) (news:List Value) (hxo:xo=none->m=0) (hl:news.length=m*size) (hnews:∀ad,xo=some ad->∀j u,news[j]?=some u->w.cell? (ad.add j)=some u) (h1:∀u ∈ news,u.oneCell'=true)
  (h63:n+m<=maxLen) (hbytes:(n+m)*bytes<=140737488355328) (hbase:base<=w.heap.size) :
  ∃v' w',(Builtin.append_ #[t,t] ty #[v,.slice xo m c]).run P w=.ok v' w'/\w'.ownsRow base e size v' (n+m) (xs++news)/\w.grownBy w' v.ownBlock /\
   (v'.ownBlock=v.ownBlock\/v'.ownBlock=some w.heap.size):=by
 cases xo with
 | none =>
  obtain rfl:=hxo rfl
  obtain rfl:news = []:=List.eq_nil_of_length_eq_zero (by simpa using hl)
  refine ⟨v,w,run_app_none w base t ty e i size ht hi v n xs hown c,by simpa using hown,⟨rfl,rfl,rfl,Nat.le_refl _,fun _ _ _=>rfl⟩,.inl rfl⟩
 | some a=>exact run_app w base t ty e i z size bytes ht hi hz hsize hby hzs hsz v n xs hown a m c news hl (hnews a rfl) h1 h63 hbytes hbase
theorem wpList_appS {w:World} {ops:Array Oper} {rest:List Oper} {o:Oper} {a:Act} {Q:Exit->Act->World->Prop} (hgd:o.guard=none) (s x:Operand) (t:TypeId)
  (ho:o.op=.call { callee:=.builtin .append,args:=#[s,x],argTypes:=#[t,t] })
  (base:Nat) (e:TypeId) (i:TypeInfo) (z:Value) (size bytes:Nat) (ht:P.underlying t=some (.slice e)) (hi:P.info? e=some i) (hz:i.zero=some z)
  (hsize:i.size=size) (hby:i.bytes=bytes) (hzs:z.cells.size=size) (hsz:0<size)
  (v:Value) (n:Nat) (xs:List Value) (hs:a.eval s=v) (hown:w.ownsRow base e size v n xs)
  (xo:Option Addr) (m c:Nat) (news:List Value) (hx:a.eval x=.slice xo m c) (hxo:xo=none->m=0) (hl:news.length=m*size) (hnews:∀ad,xo=some ad->∀j u,news[j]?=some u->w.cell? (ad.add j)=some u) (h1:∀u ∈ news,u.oneCell'=true)
  (h63:n+m<=maxLen) (hbytes:(n+m)*bytes<=140737488355328) (hbase:base<=w.heap.size)
  (h:∀v' w',w'.ownsRow base e size v' (n+m) (xs++news)->w.grownBy w' v.ownBlock->(v'.ownBlock=v.ownBlock\/v'.ownBlock=some w.heap.size)->wpList P ops Q rest (a.put o.dst v') w'):wpList P ops Q (o :: rest) a w:=by
 refine wpList_plain hgd fun K hK=>?_
 obtain ⟨v',w',hr,h2,h3,h4⟩:=run_appS w base t o.type e i z size bytes ht hi hz hsize hby hzs hsz v n xs hown xo m c news hxo hl hnews h1 h63 hbytes hbase
 unfold Oper.wp
 simp [execOp,ho,resolve,invoke,builtin,hs,hx,hr,Result.andThen]
 exact hK _ _ (h v' w' h2 h3 h4)
end App
namespace Rep
def IntsS (w:World) (S:Nat->Prop) (v:Value) (l:List Int):Prop:=Row 1 (fun b o (z:Int)=>S b/\w.cell? ⟨b,o,none⟩=.some (.int .i64 z)) v l
structure InsS {α:Type} (w:World) (S:Nat->Prop) (sub:Value->α->Prop) (bk o:Nat) (x:Ins α):Prop where
 op:w.cell? ⟨bk,o,none⟩=.some (.int .i64 x.op)
 a:w.cell? ⟨bk,o+1,none⟩=.some (.int .i64 x.a)
 b:w.cell? ⟨bk,o+2,none⟩=.some (.int .i64 x.b)
 n:w.cell? ⟨bk,o+3,none⟩=.some (.int .i64 x.n)
 labels:∃v,w.cell? ⟨bk,o+4,none⟩=.some v/\IntsS w S v x.labels
 body:∃v,w.cell? ⟨bk,o+5,none⟩=.some v/\sub v x.body
 els:∃v,w.cell? ⟨bk,o+6,none⟩=.some v/\sub v x.els
def AtS (w:World) (S:Nat->Prop):(d:Nat)->Value->IL d->Prop
 | 0,v,_=>∃o cap,v=.slice o 0 cap
 | d+1,v,l=>Row 7 (fun b o (x:Ins (IL d))=>S b/\InsS w S (AtS w S d) b o x) v l
theorem IntsS.at {w:World} {S:Nat->Prop} {v:Value} {l:List Int} (h:IntsS w S v l):Ints w v l:=Row.imp h fun _ _ _ _ h=>h.2
theorem AtS.at {w:World} {S:Nat->Prop}:∀(d:Nat) (v:Value) (l:IL d),AtS w S d v l->At w d v l
 | 0,_,_,h=>h
 | d+1,_,_,h=>Row.imp (α:=Ins (IL d)) h fun _ _ _ _ ⟨_,h⟩=>⟨h.op,h.a,h.b,h.n,let ⟨v,a,b⟩:=h.labels;⟨v,a,b.at⟩,let ⟨v,a,b⟩:=h.body;⟨v,a,AtS.at d v _ b⟩,let ⟨v,a,b⟩:=h.els;⟨v,a,AtS.at d v _ b⟩⟩
theorem cell_keep {w w':World} {S S':Nat->Prop} (hk:∀k,S k->S' k/\w'.heap[k]?=w.heap[k]?) {b o:Nat} {u:Value} (hb:S b) (h:w.cell? ⟨b,o,none⟩=.some u):w'.cell? ⟨b,o,none⟩=.some u :=
 (World.cell?_of_block (a:=⟨b,o,none⟩) (hk b hb).2).trans h
theorem IntsS.keep {w w':World} {S S':Nat->Prop} (hk:∀k,S k->S' k/\w'.heap[k]?=w.heap[k]?) {v:Value} {l:List Int} (h:IntsS w S v l):IntsS w' S' v l :=
 Row.imp h fun b _ _ _ h=>⟨(hk b h.1).1,cell_keep hk h.1 h.2⟩
theorem AtS.keep {w w':World} {S S':Nat->Prop} (hk:∀k,S k->S' k/\w'.heap[k]?=w.heap[k]?):∀(d:Nat) (v:Value) (l:IL d),AtS w S d v l->AtS w' S' d v l
 | 0,_,_,h=>h
 | d+1,_,_,h=>Row.imp (α:=Ins (IL d)) h fun b _ _ _ ⟨hb,h⟩=>⟨(hk b hb).1,cell_keep hk hb h.op,cell_keep hk hb h.a,cell_keep hk hb h.b,cell_keep hk hb h.n,let ⟨v,a,c⟩:=h.labels;⟨v,cell_keep hk hb a,c.keep hk⟩,let ⟨v,a,c⟩:=h.body;⟨v,cell_keep hk hb a,AtS.keep hk d v _ c⟩,let ⟨v,a,c⟩:=h.els;⟨v,cell_keep hk hb a,AtS.keep hk d v _ c⟩⟩
def Since (B:Nat) (w:World) (row:Option Nat) (k:Nat):Prop:=B<=k/\k<w.heap.size/\some k≠row
theorem since_below {B:Nat} {w w':World} {row:Option Nat} (hb:Below w.heap.size w w'):∀k,Since B w row k->Since B w' row k/\w'.heap[k]?=w.heap[k]?:=fun k hk =>
 ⟨⟨hk.1,Nat.lt_of_lt_of_le hk.2.1 hb.size,hk.2.2⟩,hb.block k hk.2.1⟩
theorem since_grown {B:Nat} {w w':World} {v v':Value} (hg:w.grownBy w' v.ownBlock) (hv:v'.ownBlock=v.ownBlock\/v'.ownBlock=some w.heap.size):∀k,Since B w v.ownBlock k->Since B w' v'.ownBlock k/\w'.heap[k]?=w.heap[k]?:=fun k hk=>by
 refine ⟨⟨hk.1,Nat.lt_of_lt_of_le hk.2.1 hg.size,?_⟩,hg.block k hk.2.1 hk.2.2⟩
 rcases hv with h|h
 ·rw [h];exact hk.2.2
 ·rw [h]
  intro e
  injection e with e
  have:=hk.2.1
  omega
end Rep
end Go.Proofs.YthfapccopngfhaaDoor

namespace Go.Proofs.YthfapccopngfhaaDoor
open Go.RowKit Rep
set_option linter.unusedVariables false
namespace Rep
theorem add_addr (b o k:Nat):(⟨b,o,none⟩:Addr).add k=⟨b,o+k,none⟩:=by
 by_cases hk:k=0
 ·subst hk;rfl
 ·simp [Addr.add,hk]
variable {H:Type} {enc:TypeId × Value->H} {P:Program} {w:World} {base:Nat} {spare:Nat->Bool} {held:Bool}
end Rep
section Of
variable {H:Type} {enc:TypeId × Value->H} {w:World} {base:Nat} {spare:Nat->Bool} {held:Bool}
end Of
end Go.Proofs.YthfapccopngfhaaDoor

