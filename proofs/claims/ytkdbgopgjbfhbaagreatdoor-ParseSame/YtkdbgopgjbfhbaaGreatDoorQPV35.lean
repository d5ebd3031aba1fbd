/- Texts that the claim needs. -/
import Derived.Test.YtkdbgopgjbfhbaaGreatDoorQPV28
import Derived.Test.YtkdbgopgjbfhbaaGreatDoorQPV34
import Derived.Test.YtkdbgopgjbfhbaaGreatDoorQPV1
import Derived.Laws.Strings
import Derived.Test.YtkdbgopgjbfhbaaGreatDoorQPV2
import Derived.ProofKit
import Derived.OpenShut
import Derived.Lib.SmallJoins
import Derived.Test.YtkdbgopgjbfhbaaGreatDoorQPV3
import Derived.Test.YtkdbgopgjbfhbaaGreatDoorQPV11
namespace Go.Proofs.YtkdbgopgjbfhbaaGreatDoor
open Go.RowKit Lx Pz bw
set_option linter.unusedVariables false
namespace Pz
theorem Ty {b o:Nat} {w:World} {t:Value} (h:nV 0 w b o t):∃x u z a,w.cell? ⟨b,o,none⟩=some (.string x)/\w.cell? ⟨b,o+1,none⟩=some u/\w.cell? ⟨b,o+2,none⟩=some z/\w.cell? ⟨b,o+3,none⟩=some (.int .i64 a)/\(u.oneCell'=true/\z.oneCell'=true)/\iL 0 t (.agg #[.string x,u,z,.int .i64 a]) w:=by
 obtain ⟨x,u,z,a,ps,cs,h0,h1,h2,h3,h4,o1,o2,h5,h6⟩:=Gy h;exact ⟨x,u,z,a,h1,h2,h3,h4,⟨o1,o2⟩,x,ps,cs,a,u,z,h0,rfl,h5,h6⟩
theorem Tz {b o:Nat} {w:World} {t:Value} (h:lD 0 w b o t):∃x u,w.cell? ⟨b,o,none⟩=some (.string x)/\w.cell? ⟨b,o+1,none⟩=some u/\u.oneCell'=true/\iw 0 t (.agg #[.string x,u]) w:=by
 obtain ⟨x,u,ts,h0,h1,h2,o1,h5⟩:=Bb h;exact ⟨x,u,h1,h2,o1,x,ts,u,h0,rfl,h5⟩
theorem GG {d b o:Nat} {w:World} {t:Value} (h:cf 0 w d b o t):∃k x y n u z a,w.cell? ⟨b,o,none⟩=some (.int .i64 k)/\w.cell? ⟨b,o+1,none⟩=some (.string x)/\w.cell? ⟨b,o+2,none⟩=some (.string y)/\w.cell? ⟨b,o+3,none⟩=some (.int .i64 n)/\w.cell? ⟨b,o+4,none⟩=some u/\w.cell? ⟨b,o+5,none⟩=some z/\w.cell? ⟨b,o+6,none⟩=some (.int .i64 a)/\(u.oneCell'=true/\z.oneCell'=true)/\aW 0 t (.agg #[.int .i64 k,.string x,.string y,.int .i64 n,u,z,.int .i64 a]) w:=by
 obtain ⟨k,x,y,n,u,z,a,h1,h2,h3,h4,h5,h6,h7,o1,o2,h8⟩:=JD h;exact ⟨k,x,y,n,u,z,a,h1,h2,h3,h4,h5,h6,h7,⟨o1,o2⟩,h8⟩
theorem GF {d b o:Nat} {w:World} {t:Value} (h:bR 0 w d b o t):∃k x n u a,w.cell? ⟨b,o,none⟩=some (.int .i64 k)/\w.cell? ⟨b,o+1,none⟩=some (.string x)/\w.cell? ⟨b,o+2,none⟩=some (.int .i64 n)/\w.cell? ⟨b,o+3,none⟩=some u/\w.cell? ⟨b,o+4,none⟩=some (.int .i64 a)/\u.oneCell'=true/\bV 0 t (.agg #[.int .i64 k,.string x,.int .i64 n,u,.int .i64 a]) w:=by
 obtain ⟨k,x,n,u,a,es,_,h1,h2,h3,h4,h5,o1,h6,_⟩:=KX h;exact ⟨k,x,n,u,a,h1,h2,h3,h4,h5,o1,h6⟩
theorem EM {d b o:Nat} {w:World} {t:Value} (h:dw 0 w d b o t):∃k x n u,w.cell? ⟨b,o,none⟩=some (.int .i64 k)/\w.cell? ⟨b,o+1,none⟩=some (.string x)/\w.cell? ⟨b,o+2,none⟩=some (.int .i64 n)/\w.cell? ⟨b,o+3,none⟩=some u/\u.oneCell'=true/\eu 0 t (.agg #[.int .i64 k,.string x,.int .i64 n,u]) w:=by
 obtain ⟨k,x,n,u,es,_,h1,h2,h3,h4,o1,h5⟩:=KM h;exact ⟨k,x,n,u,h1,h2,h3,h4,o1,h5⟩
end Pz
end Go.Proofs.YtkdbgopgjbfhbaaGreatDoor
namespace Go.Proofs.YtkdbgopgjbfhbaaGreatDoor
open Go.RowKit Lx
set_option linter.unusedVariables false
namespace Lx
end Lx
end Go.Proofs.YtkdbgopgjbfhbaaGreatDoor
namespace Go.Proofs.YtkdbgopgjbfhbaaGreatDoor
open Go.RowKit Ints
set_option linter.unusedVariables false
set_option linter.unusedVariables false
set_option linter.unusedVariables false
end Go.Proofs.YtkdbgopgjbfhbaaGreatDoor
namespace Go.Proofs.YtkdbgopgjbfhbaaGreatDoor
open Go.RowKit Lx Pz bw
set_option linter.unusedVariables false
namespace Pz
theorem VR {w w':World} (h:Ints.WI w) (hb:Below w.heap.size w w'):Ints.WI w':=fun k hk=>ag hb (h k hk)
def jO (nk pk:Int) (nm:Bool) (ar:Int):List Value:=[.int .i64 nk,.int .i64 pk,.bool nm,.int .i64 ar]
def VS:List Value:=jO 0 0 false 0++jO 0 0 false 0++jO 3 0 false 0++jO 0 0 false 2++jO 1 0 false (-1)
def VT:List Value:=jO 0 0 false 0++jO 0 0 false 0++jO 1 0 false 0++jO 0 0 true 0++jO 2 0 false (-1)
def VU:List Value:=jO 0 0 false 0++jO 1 0 false 0++jO 0 0 true 0++jO 1 0 false 1++jO 0 0 false 2++jO 1 0 false 2++jO 1 1 false 2++jO 0 0 false (-2)++jO 2 0 false (-1)++jO 6 0 false 2++jO 0 0 false 1
structure GW (w:World):Prop where
 wl:WL w
 tp:TP w
 wi:Ints.WI w
 ty:∀j v,VS[j]?=some v->w.cell? ⟨5,j,none⟩=some v
 pa:∀j v,VT[j]?=some v->w.cell? ⟨3,j,none⟩=some v
 ex:∀j v,VU[j]?=some v->w.cell? ⟨0,j,none⟩=some v
theorem GW.on {w w':World} (h:GW w) (hb:Below w.heap.size w w'):GW w' :=
 ⟨h.wl.on hb,h.tp.on hb,VR h.wi hb,fun j v hv=>ag hb (h.ty j v hv),fun j v hv=>ag hb (h.pa j v hv),fun j v hv=>ag hb (h.ex j v hv)⟩
theorem NV (n:Int):(Ints.wr n == n)=ez n:=by
 unfold ez;by_cases h:-1073741824<=n/\n<=1073741823
 ·rw [decide_eq_true h.1,decide_eq_true h.2,beq_iff_eq.2 ((Ints.NW n).2 h)];rfl
 ·rw [beq_eq_false_iff_ne.2 (fun e=>h ((Ints.NW n).1 e))];rw [<- Bool.decide_and,decide_eq_false h]
end Pz
end Go.Proofs.YtkdbgopgjbfhbaaGreatDoor
namespace Go.Proofs.YtkdbgopgjbfhbaaGreatDoor
open Go.RowKit bw
set_option linter.unusedVariables false
namespace bw
theorem acK {α:Type} (n:Nat) (f:Nat->α->Prop) (h:∀i,i<n->∃x,f i x):∃l:List α,l.length=n/\∀i x,l[i]?=some x->f i x:=by
 induction n with
 | zero=>exact ⟨[],rfl,fun i x hx=>by simp at hx⟩
 | succ n ih =>
  obtain ⟨l,hl,hf⟩:=ih fun i hi=>h i (by omega);obtain ⟨x,hx⟩:=h n (by omega);refine ⟨l++[x],by simp [hl],fun i y hy=>?_⟩;by_cases hi:i<n
  ·rw [List.getElem?_append_left (by omega)] at hy;exact hf i y hy
  ·have hlt:i<(l++[x]).length:=(List.getElem?_eq_some_iff.1 hy).1;have hi':i=n:=by simp [hl] at hlt;omega
   subst hi';rw [<- hl] at hy;simp at hy;subst hy;exact hx
theorem acL {w:World} {a:Addr} {v:Value} (h:w.cell? a=some v):a.spot=none:=by
 obtain ⟨b,o,sp⟩:=a;cases sp with
 | none=>rfl
 | some x =>
  unfold World.cell? at h;split at h<;>simp at h
theorem TJ (b o k:Nat):(⟨b,o,none⟩:Addr).add k=⟨b,o+k,none⟩:=by
 by_cases hk:k=0
 ·subst hk;rfl
 ·simp [Addr.add,hk]
variable {H:Type} {enc:TypeId × Value->H} {P:Program} {w:World} {base:Nat} {spare:Nat->Bool} {held:Bool}
theorem Be {α:Type} {t e:TypeId} {v:Value} {x:DataW H × List MemPlace} {fuel:Nat} (c:Nat) (hc:0<c) (f:Nat->Nat->α->Prop) (ht:P.underlying t=some (.slice e)) (hce:P.cellsOf e=c)
  (h:DataW.trod enc P w base spare held fuel t [v]=some x)
  (hel:∀n cs y b o,fuel=n+1->DataW.trod enc P w base spare held n e cs=some y->cs.length=c->(∀j,j<c->w.cell? ⟨b,o+j,none⟩=cs[j]?)->∃z,f b o z) :
  (∃l,Row c f v l)/\∀n c',v=.slice none n c'->c'=0:=by
 rcases DataW.trod_slice ht h with ⟨hv,_⟩|⟨a,len,cap,elems,rest,n,hfu,hv,_,_,hlc,hcm,hlen,hget,_,_⟩
 ·obtain rfl:v=.slice none 0 0:=by simpa using hv
  exact ⟨⟨[],by simp,.inl ⟨rfl,none,0,rfl⟩⟩,fun n c' h=>by injection h with _ _ h3;exact h3.symm⟩
 ·obtain rfl:v=.slice (some a) len cap:=by simpa using hv
  refine ⟨?_,fun n c' h=>by injection h with h1;cases h1⟩;by_cases h0:len=0
  ·subst h0;exact ⟨[],by simp,.inl ⟨rfl,_,_,rfl⟩⟩
  ·have hbind:∀i,i<len->∃cs y,w.cells? base (a.add (i*c)) c=some cs/\DataW.trod enc P w base spare held n e cs=some y:=fun i hi=>by
    have hg:=hget i hi;rw [hce] at hg;obtain ⟨y,hy⟩:∃y,elems[i]?=some y:=⟨_,List.getElem?_eq_getElem (by omega)⟩;rw [hy] at hg;obtain ⟨cs,h1,h2⟩:=Option.bind_eq_some_iff.1 hg;exact ⟨cs,y,h1,h2⟩
   have hsp:a.spot=none:=by
    obtain ⟨cs,y,h1,h2⟩:=hbind 0 (by omega);obtain ⟨_,hl,hcell⟩:=World.cells?_some h1;have h3:=hcell 0 hc;rw [Nat.zero_mul] at h3
    have:cs[0]?=some (cs[0]'(by omega)):=List.getElem?_eq_getElem (by omega)
    rw [this] at h3
    have:=acL h3
    simpa [Addr.add] using this
   obtain ⟨b,off,sp⟩:=a;simp only at hsp;subst hsp
   obtain ⟨l,hl,hf⟩:=acK len (fun i z=>f b (off+i*c) z) fun i hi=>by
    obtain ⟨cs,y,h1,h2⟩:=hbind i hi;obtain ⟨_,hl,hcell⟩:=World.cells?_some h1;refine hel n cs y b (off+i*c) hfu h2 hl fun j hj=>?_
    have:=hcell j hj
    rw [TJ,TJ] at this;exact this
   subst hl;exact ⟨l,by unfold maxLen at hcm;omega,.inr ⟨b,off,cap,rfl,hf⟩⟩
theorem gP {fs:Array Field} {xs:List (DataW H × List MemPlace)} {cs:List Value} {n:Nat} (hl:xs.length=fs.size)
  (hall:∀(i:Nat) (f:Field),fs[i]?=some f->DataW.trod enc P w base spare held n f.type ((cs.drop f.offset).take (P.cellsOf f.type))=xs[i]?) (i:Nat) (f:Field) (hf:fs[i]?=some f) :
  ∃y,DataW.trod enc P w base spare held n f.type ((cs.drop f.offset).take (P.cellsOf f.type))=some y:=by
 have hi:i<fs.size:=(Array.getElem?_eq_some_iff.1 hf).1;exact ⟨xs[i]'(by omega),by rw [hall i f hf,List.getElem?_eq_getElem]⟩
theorem take_one {cs:List Value} {o:Nat} {v:Value} (h:(cs.drop o).take 1 = [v]):cs[o]?=some v:=by
 have:=congrArg (·[0]?) h
 simpa [List.getElem?_take,List.getElem?_drop] using this
theorem qJ {t:TypeId} {n:Nat} {cs:List Value} {o:Nat} {y:DataW H × List MemPlace} (ht:P.underlying t=some (.int .i64)) (hc:P.cellsOf t=1) (h:DataW.trod enc P w base spare held n t ((cs.drop o).take (P.cellsOf t))=some y):∃z:Int,cs[o]?=some (.int .i64 z)/\(Lit.int .i64 z).wf=true:=by
 rw [hc] at h;obtain ⟨z,h1,_,h2⟩:=DataW.trod_int ht h;exact ⟨z,take_one h1,h2⟩
theorem xH {t:TypeId} {n:Nat} {cs:List Value} {o:Nat} {y:DataW H × List MemPlace} (ht:P.underlying t=some .string) (hc:P.cellsOf t=1) (h:DataW.trod enc P w base spare held n t ((cs.drop o).take (P.cellsOf t))=some y):∃z:ByteArray,cs[o]?=some (.string z)/\z.size<=9223372036854775807:=by
 rw [hc] at h;obtain ⟨z,h1,_,h2⟩:=DataW.trod_string ht h;exact ⟨z,take_one h1,by unfold maxLen at h2;omega⟩
theorem tT {t e:TypeId} {n:Nat} {cs:List Value} {o:Nat} {y:DataW H × List MemPlace} (ht:P.underlying t=some (.slice e)) (hc:P.cellsOf t=1) (h:DataW.trod enc P w base spare held n t ((cs.drop o).take (P.cellsOf t))=some y):∃v,cs[o]?=some v/\DataW.trod enc P w base spare held n t [v]=some y:=by
 rw [hc] at h;rcases DataW.trod_slice ht h with ⟨hv,_⟩|⟨a,len,cap,_,_,_,_,hv,_⟩
 ·rw [hv] at h;exact ⟨_,take_one hv,h⟩
 ·rw [hv] at h;exact ⟨_,take_one hv,h⟩
theorem nQ {α:Type} {c:Nat} {f:Nat->Nat->α->Prop} {g:α->Prop} {v:Value} {l:List α} (h:Row c (fun b o x=>f b o x/\g x) v l):∀x ∈ l,g x:=by
 intro x hx;rcases h.2 with ⟨rfl,_⟩|⟨b,off,cap,_,hc⟩
 ·cases hx
 ·obtain ⟨i,hi,rfl⟩:=List.getElem_of_mem hx;exact (hc i _ (List.getElem?_eq_getElem hi)).2
end bw
theorem qK:Tryz.prog.cellsOf 3=1:=by kernel_rfl
theorem vA:Tryz.prog.cellsOf 9=1:=by kernel_rfl
section Of
variable {H:Type} {enc:TypeId × Value->H} {w:World} {base:Nat} {spare:Nat->Bool} {held:Bool}
end Of
namespace bw
def Sub (w w':World):Prop:=∀b o u,w.cell? ⟨b,o,none⟩=.some u->w'.cell? ⟨b,o,none⟩=.some u
theorem Sub.refl (w:World):Sub w w:=fun _ _ _ h=>h
theorem Sub.trans {w1 w2 w3:World} (h:Sub w1 w2) (h':Sub w2 w3):Sub w1 w3:=fun b o u e=>h' b o u (h b o u e)
section On
variable {w w':World} (hb:Sub w w')
theorem Ints.sub (hb:Sub w w') {v:Value} {l:List Int} (h:Ints w v l):Ints w' v l:=Row.imp h fun _ _ _ _ h=>hb _ _ _ h
theorem sP.sub (hb : Sub w w') {α : Type} {f g : Value → α → Prop} (hfg : ∀ v x, f v x → g v x) {b o : Nat} {x : Ins α} (h : sP w f b o x) : sP w' g b o x :=
  ⟨hb _ _ _ h.op, hb _ _ _ h.a, hb _ _ _ h.b, hb _ _ _ h.n,
   let ⟨v, h1, h2⟩ := h.labels; ⟨v, hb _ _ _ h1, h2.sub hb⟩,
   let ⟨v, h1, h2⟩ := h.body; ⟨v, hb _ _ _ h1, hfg _ _ h2⟩,
   let ⟨v, h1, h2⟩ := h.els; ⟨v, hb _ _ _ h1, hfg _ _ h2⟩⟩
theorem At.sub (hb:Sub w w'):∀(d:Nat) (v:Value) (l:IL d),At w d v l->At w' d v l
 | 0,_,_,h=>h
 | d+1,_,_,h=>Row.imp (α:=Ins (IL d)) h fun _ _ _ _ h=>h.sub hb (At.sub hb d)
theorem vZ.sub (hb:Sub w w') {bk o:Nat} {x:FT} (h:vZ w bk o x):vZ w' bk o x :=
 ⟨let ⟨v,a,b⟩:=h.params;⟨v,hb _ _ _ a,b.sub hb⟩,let ⟨v,a,b⟩:=h.results;⟨v,hb _ _ _ a,b.sub hb⟩⟩
theorem wh.sub (hb:Sub w w') {bk o:Nat} {x:EN} (h:wh w bk o x):wh w' bk o x:=⟨hb _ _ _ h.mod,hb _ _ _ h.name,hb _ _ _ h.type⟩
theorem wm.sub (hb:Sub w w') {d bk o:Nat} {x:EO d} (h:wm w d bk o x):wm w' d bk o x :=
 ⟨hb _ _ _ h.type,let ⟨v,a,b⟩:=h.locals;⟨v,hb _ _ _ a,b.sub hb⟩,let ⟨v,a,b⟩:=h.body;⟨v,hb _ _ _ a,At.sub hb d v _ b⟩⟩
theorem sO.sub (hb:Sub w w') {bk o:Nat} {x:Co} (h:sO w bk o x):sO w' bk o x:=⟨hb _ _ _ h.min,hb _ _ _ h.max,hb _ _ _ h.has⟩
theorem wo.sub (hb:Sub w w') {d bk o:Nat} {x:EP d} (h:wo w d bk o x):wo w' d bk o x:=⟨hb _ _ _ h.type,hb _ _ _ h.ER,h.init.sub hb (At.sub hb d)⟩
theorem wu.sub (hb:Sub w w') {bk o:Nat} {x:ES} (h:wu w bk o x):wu w' bk o x:=⟨hb _ _ _ h.name,hb _ _ _ h.kind,hb _ _ _ h.index⟩
theorem wy.sub (hb:Sub w w') {d bk o:Nat} {x:ET d} (h:wy w d bk o x):wy w' d bk o x:=⟨h.offset.sub hb (At.sub hb d),let ⟨v,a,b⟩:=h.funcs;⟨v,hb _ _ _ a,b.sub hb⟩⟩
theorem wz.sub (hb:Sub w w') {d bk o:Nat} {x:Dat d} (h:wz w d bk o x):wz w' d bk o x:=⟨h.offset.sub hb (At.sub hb d),hb _ _ _ h.bytes⟩
end On
def only (w:World) (S:Nat->Bool):World:={ w with heap:=w.heap.mapIdx fun i x=>if S i then x else .cells #[] 0 (0,0) }
structure Piece {α:Type} (R:World) (c:Nat) (f:World->Nat->Nat->α->Prop) (x:α) (cs:List Value):Prop where
 len:cs.length=c
 one:∀u ∈ cs,u.oneCell'=true
 lay:∀R' b o,Sub R R'->(∀k u,cs[k]?=.some u->R'.cell? ⟨b,o+k,none⟩=.some u)->f R' b o x
theorem Piece.sub {α:Type} {R R2:World} {c:Nat} {f:World->Nat->Nat->α->Prop} {x:α} {cs:List Value} (h:Piece R c f x cs) (hs:Sub R R2):Piece R2 c f x cs :=
 ⟨h.len,h.one,fun R' b o h' hc=>h.lay R' b o (hs.trans h') hc⟩
def flat {α:Type} (ps:List (α × List Value)):List Value:=ps.flatMap (·.2)
section App
variable {P:Program}
end App
end bw
namespace bw
section Zh
variable {w w':World} {b:Nat} {c0 c1 c2 c3 c4 c5 c6 c7 c8 c9:Value}
end Zh
end bw
namespace ah
def oO (L:List Value) (i:Nat) (v:Value) (_:World):Prop:=v=L.getD i undef
section
variable {P:Program} {ops:Array Oper} {Q:Exit->Act->World->Prop} {id:Nat} {a0:Act} {w0:World}
theorem acn {a:Act} {lo j:Nat} {L:List Value} (h:a.eval (.tmp (lo+j))=L.getD j undef):a.tmps[j+lo]?.getD undef=L.getD j undef:=by
 rw [Nat.add_comm];exact ak h
theorem rf (n lo size:Nat) (L:List Value) (hm:P.follows .mixedOrders=true) (hT:yp ops n=true) (hd:Ke ops n (fun i=>lo+i) size=true) (hs:a0.tmps.size=size)
  (hstep:∀i o a w,i<n->ops[i]?=some o->Fr a0 (fun i=>lo+i) n a->Below w0.heap.size w0 w->(∀j ∈ deps o,a.tmps[j+lo]?.getD undef=L.getD j undef)->Does P ops Q (oO L i) o a w)
  (hend:∀a w,Fr a0 (fun i=>lo+i) n a->Below w0.heap.size w0 w->(∀i,i<n->a.eval (.tmp (lo+i))=L.getD i undef)->Q .normal a w) :
  (Code.region id ops true).wp P Q a0 w0 :=
 QS n (fun i=>lo+i) (oO L) hm hT (fun i j _ _ h=>by have h':lo+i=lo+j:=h;omega) (fun i hi=>by rw [hs];exact QT hd i hi) (fun _ _ _ _ _ h _=>h)
  (fun i o a w hi ho hF hB hG=>hstep i o a w hi ho hF hB fun j hj=>acn (hG j hj)) (fun a w hF hB hG=>hend a w hF hB fun i hi=>hG i hi)
theorem vY {p:Value->World->Prop} {o oj:Oper} {a:Act} {w:World} {j lo:Nat} {b:Bool} {L:List Value} (hg:o.guard=some (j,b)) (hj:ops[j]?=some oj) (hk:oj.dst=some (j+lo)) (hb:L.getD j undef=.bool b) (hd:a.tmps[j+lo]?.getD undef=L.getD j undef) (h:o.wp P a w (fun a' w'=>∃v,a'=a.put o.dst v/\Below w.heap.size w w'/\p v w') Q):Does P ops Q p o a w :=
 Does.wanted hg hj hk (by show a.tmps.getD (j+lo) undef=_;rw [Array.getD_eq_getD_getElem?,hd,hb]) h
end
end ah
end Go.Proofs.YtkdbgopgjbfhbaaGreatDoor
namespace Go.Proofs.YtkdbgopgjbfhbaaGreatDoor
open Go.RowKit Lx Pz bw
set_option linter.unusedVariables false
namespace ah
section
variable {P:Program} {ops:Array Oper} {Q:Exit->Act->World->Prop} {id:Nat} {a0:Act} {w0:World}
theorem vX {p:Value->World->Prop} {o oj:Oper} {a:Act} {w:World} {j lo:Nat} {b:Bool} {L:List Value} (hg:o.guard=some (j,b)) (hj:ops[j]?=some oj) (hk:oj.dst=some (j+lo)) (hb:L.getD j undef=.bool (!b)) (hd:a.tmps[j+lo]?.getD undef=L.getD j undef) (h:p undef w):Does P ops Q p o a w :=
 Does.skip hg hj hk (by show a.tmps.getD (j+lo) undef=_;rw [Array.getD_eq_getD_getElem?,hd,hb]) h
end
end ah
namespace Pz
def CC:Nat->Value->Prop
 | 0,_=>True
 | d+1,t=>(wG t).size<=140737488355328/\True/\(-9223372036854775808<=uE t/\uE t<=9223372036854775807)/\(∀x ∈ dD t,CC d x)/\True
def Jj:Nat->Value->Prop
 | 0,_=>True
 | d+1,t=>(wG t).size<=140737488355328/\(Fb t).size<=140737488355328/\(-9223372036854775808<=uE t/\uE t<=9223372036854775807)/\(∀x ∈ dD t,Jj d x)/\(∀x ∈ gD t,CC d x)
def Oy (m:Nat) (c:Value):Prop:=(sU c).size<=140737488355328/\∀t ∈ oJ c,CC m t
def Oz (m:Nat) (d:Value):Prop:=(sU d).size<=140737488355328/\(∀p ∈ p8 d,(qd p).size<=140737488355328)/\∀c ∈ kH d,Oy m c
end Pz
end Go.Proofs.YtkdbgopgjbfhbaaGreatDoor
