/- Texts that the claim needs. -/
import Derived.Test.YtiailkiepndliaaGreatDoorQDWi1
import Derived.ProofKit
import Derived.OpenShut
import Derived.Lib.SmallJoins
import Derived.WalkKit
import Derived.Laws.BitsAllLaws
import Derived.Test.YtiailkiepndliaaGreatDoorRows
import Derived.Test.YtiailkiepndliaaGreatDoorQDWi0
import Derived.WalkSpells
import Derived.WalkSmall
import Derived.BigQuiet
import Derived.Deep.QuietTactic
namespace Go.Proofs.YtiailkiepndliaaGreatDoor
open Go.RowKit Rep
set_option linter.unusedVariables false
namespace Rep
theorem choose_list {α:Type} (n:Nat) (f:Nat->α->Prop) (h:∀i,i<n->∃x,f i x):∃l:List α,l.length=n/\∀i x,l[i]?=some x->f i x:=by
 induction n with
 | zero=>exact ⟨[],rfl,fun i x hx=>by simp at hx⟩
 | succ n ih =>
  obtain ⟨l,hl,hf⟩:=ih fun i hi=>h i (by omega)
  obtain ⟨x,hx⟩:=h n (by omega)
  refine ⟨l++[x],by simp [hl],fun i y hy=>?_⟩
  by_cases hi:i<n
  ·rw [List.getElem?_append_left (by omega)] at hy;exact hf i y hy
  ·have hlt:i<(l++[x]).length:=(List.getElem?_eq_some_iff.1 hy).1
   have hi':i=n:=by simp [hl] at hlt;omega
   subst hi'
   rw [<- hl] at hy
   simp at hy
   subst hy
   exact hx
theorem spot_none {w:World} {a:Addr} {v:Value} (h:w.cell? a=some v):a.spot=none:=by
 obtain ⟨b,o,sp⟩:=a
 cases sp with
 | none=>rfl
 | some x =>
  unfold World.cell? at h
  split at h<;>simp at h
theorem add_addr (b o k:Nat):(⟨b,o,none⟩:Addr).add k=⟨b,o+k,none⟩:=by
 by_cases hk:k=0
 ·subst hk;rfl
 ·simp [Addr.add,hk]
variable {H:Type} {enc:TypeId × Value->H} {P:Program} {w:World} {base:Nat} {spare:Nat->Bool} {held:Bool}
theorem row_of_trod {α:Type} {t e:TypeId} {v:Value} {x:DataW H × List MemPlace} {fuel:Nat} (c:Nat) (hc:0<c) (f:Nat->Nat->α->Prop) (ht:P.underlying t=some (.slice e)) (hce:P.cellsOf e=c)
  (h:DataW.trod enc P w base spare held fuel t [v]=some x)
  (hel:∀n cs y b o,fuel=n+1->DataW.trod enc P w base spare held n e cs=some y->cs.length=c->(∀j,j<c->w.cell? ⟨b,o+j,none⟩=cs[j]?)->∃z,f b o z) :
  (∃l,Row c f v l)/\∀n c',v=.slice none n c'->c'=0:=by
 rcases DataW.trod_slice ht h with ⟨hv,_⟩|⟨a,len,cap,elems,rest,n,hfu,hv,_,_,hlc,hcm,hlen,hget,_,_⟩
 ·obtain rfl:v=.slice none 0 0:=by simpa using hv
  exact ⟨⟨[],by simp,.inl ⟨rfl,none,0,rfl⟩⟩,fun n c' h=>by injection h with _ _ h3;exact h3.symm⟩
 ·obtain rfl:v=.slice (some a) len cap:=by simpa using hv
  refine ⟨?_,fun n c' h=>by injection h with h1;cases h1⟩
  by_cases h0:len=0
  ·subst h0
   exact ⟨[],by simp,.inl ⟨rfl,_,_,rfl⟩⟩
  ·have hbind:∀i,i<len->∃cs y,w.cells? base (a.add (i*c)) c=some cs/\DataW.trod enc P w base spare held n e cs=some y:=fun i hi=>by
    have hg:=hget i hi
    rw [hce] at hg
    obtain ⟨y,hy⟩:∃y,elems[i]?=some y:=⟨_,List.getElem?_eq_getElem (by omega)⟩
    rw [hy] at hg
    obtain ⟨cs,h1,h2⟩:=Option.bind_eq_some_iff.1 hg
    exact ⟨cs,y,h1,h2⟩
   have hsp:a.spot=none:=by
    obtain ⟨cs,y,h1,h2⟩:=hbind 0 (by omega)
    obtain ⟨_,hl,hcell⟩:=World.cells?_some h1
    have h3:=hcell 0 hc
    rw [Nat.zero_mul] at h3
    have:cs[0]?=some (cs[0]'(by omega)):=List.getElem?_eq_getElem (by omega)
    rw [this] at h3
    have:=spot_none h3
    simpa [Addr.add] using this
   obtain ⟨b,off,sp⟩:=a
   simp only at hsp
   subst hsp
   obtain ⟨l,hl,hf⟩:=choose_list len (fun i z=>f b (off+i*c) z) fun i hi=>by
    obtain ⟨cs,y,h1,h2⟩:=hbind i hi
    obtain ⟨_,hl,hcell⟩:=World.cells?_some h1
    refine hel n cs y b (off+i*c) hfu h2 hl fun j hj=>?_
    have:=hcell j hj
    rw [add_addr,add_addr] at this
    exact this
   subst hl
   exact ⟨l,by unfold maxLen at hcm;omega,.inr ⟨b,off,cap,rfl,hf⟩⟩
theorem field_get {fs:Array Field} {xs:List (DataW H × List MemPlace)} {cs:List Value} {n:Nat} (hl:xs.length=fs.size)
  (hall:∀(i:Nat) (f:Field),fs[i]?=some f->DataW.trod enc P w base spare held n f.type ((cs.drop f.offset).take (P.cellsOf f.type))=xs[i]?) (i:Nat) (f:Field) (hf:fs[i]?=some f) :
  ∃y,DataW.trod enc P w base spare held n f.type ((cs.drop f.offset).take (P.cellsOf f.type))=some y:=by
 have hi:i<fs.size:=(Array.getElem?_eq_some_iff.1 hf).1
 exact ⟨xs[i]'(by omega),by rw [hall i f hf,List.getElem?_eq_getElem]⟩
theorem take_one {cs:List Value} {o:Nat} {v:Value} (h:(cs.drop o).take 1 = [v]):cs[o]?=some v:=by
 have:=congrArg (·[0]?) h
 simpa [List.getElem?_take,List.getElem?_drop] using this
theorem int_field {t:TypeId} {n:Nat} {cs:List Value} {o:Nat} {y:DataW H × List MemPlace} (ht:P.underlying t=some (.int .i64)) (hc:P.cellsOf t=1) (h:DataW.trod enc P w base spare held n t ((cs.drop o).take (P.cellsOf t))=some y):∃z:Int,cs[o]?=some (.int .i64 z)/\(Lit.int .i64 z).wf=true:=by
 rw [hc] at h
 obtain ⟨z,h1,_,h2⟩:=DataW.trod_int ht h
 exact ⟨z,take_one h1,h2⟩
theorem slice_field {t e:TypeId} {n:Nat} {cs:List Value} {o:Nat} {y:DataW H × List MemPlace} (ht:P.underlying t=some (.slice e)) (hc:P.cellsOf t=1) (h:DataW.trod enc P w base spare held n t ((cs.drop o).take (P.cellsOf t))=some y):∃v,cs[o]?=some v/\DataW.trod enc P w base spare held n t [v]=some y:=by
 rw [hc] at h
 rcases DataW.trod_slice ht h with ⟨hv,_⟩|⟨a,len,cap,_,_,_,_,hv,_⟩
 ·rw [hv] at h;exact ⟨_,take_one hv,h⟩
 ·rw [hv] at h;exact ⟨_,take_one hv,h⟩
theorem row_mem {α:Type} {c:Nat} {f:Nat->Nat->α->Prop} {g:α->Prop} {v:Value} {l:List α} (h:Row c (fun b o x=>f b o x/\g x) v l):∀x ∈ l,g x:=by
 intro x hx
 rcases h.2 with ⟨rfl,_⟩|⟨b,off,cap,_,hc⟩
 ·cases hx
 ·obtain ⟨i,hi,rfl⟩:=List.getElem_of_mem hx
  exact (hc i _ (List.getElem?_eq_getElem hi)).2
end Rep
theorem cInt:Tryz.prog.cellsOf 3=1:=by kernel_rfl
theorem cInts:Tryz.prog.cellsOf 24=1:=by kernel_rfl
theorem cInstrs:Tryz.prog.cellsOf 22=1:=by kernel_rfl
theorem cInstr:Tryz.prog.cellsOf 50=7:=by kernel_rfl
section Of
variable {H:Type} {enc:TypeId × Value->H} {w:World} {base:Nat} {spare:Nat->Bool} {held:Bool}
theorem ints_of {fuel:Nat} {v:Value} {x:DataW H × List MemPlace} (h:DataW.trod enc Tryz.prog w base spare held fuel 24 [v]=some x):∃l,Ints w v l:=by
 refine (row_of_trod 1 (by omega) _ Tryz.underlying24 cInt h fun n cs y b o _ hy hl hc=>?_).1
 obtain ⟨z,h1,_,_⟩:=DataW.trod_int Tryz.underlying3 hy
 refine ⟨z,?_⟩
 have:=hc 0 (by omega)
 rw [h1] at this
 simpa using this
end Of
end Go.Proofs.YtiailkiepndliaaGreatDoor

namespace Go.Proofs.YtiailkiepndliaaGreatDoor
open Go.RowKit Rep
set_option linter.unusedVariables false
namespace Rep
def Blk (w:World) (p:Nat) (op a b n:Int) (v4 v5 v6:Value):Prop:=w.heap[p]?=some (.cells #[.int .i64 op,.int .i64 a,.int .i64 b,.int .i64 n,v4,v5,v6] 50 (0,0))
theorem Blk.new (w:World) (p:Nat) (op a b n:Int) (v4 v5 v6:Value) (hp:p=w.heap.size):Blk (w.alloc (.cells #[.int .i64 op,.int .i64 a,.int .i64 b,.int .i64 n,v4,v5,v6] 50)) p op a b n v4 v5 v6:=by
 subst hp;exact heap_alloc_new w _
theorem Blk.cell {w:World} {p:Nat} {op a b n:Int} {v4 v5 v6:Value} (h:Blk w p op a b n v4 v5 v6) (i:Nat) (v:Value) (hv:#[Value.int .i64 op,.int .i64 a,.int .i64 b,.int .i64 n,v4,v5,v6][i]?=some v):w.cell? ⟨p,i,none⟩=some v:=by
 unfold World.cell?
 rw [h]
 exact hv
theorem Blk.frz {w:World} {p:Nat} {op a b n:Int} {v4 v5 v6:Value} (h:Blk w p op a b n v4 v5 v6) (i:Nat):w.frozen? ⟨p,i,none⟩=false:=by
 unfold World.frozen?
 rw [h]
 simp
theorem Blk.keep {w w':World} {p:Nat} {op a b n:Int} {v4 v5 v6:Value} (h:Blk w p op a b n v4 v5 v6) (hk:w'.heap[p]?=w.heap[p]?):Blk w' p op a b n v4 v5 v6:=by unfold Blk at *;rw [hk];exact h
theorem Blk.set4 {w:World} {p:Nat} {op a b n:Int} {v4 v5 v6:Value} (h:Blk w p op a b n v4 v5 v6) (v:Value):Blk (w.setCell ⟨p,4,none⟩ v) p op a b n v v5 v6:=heap_setCell_same w p 4 _ _ v h
theorem Blk.set5 {w:World} {p:Nat} {op a b n:Int} {v4 v5 v6:Value} (h:Blk w p op a b n v4 v5 v6) (v:Value):Blk (w.setCell ⟨p,5,none⟩ v) p op a b n v4 v v6:=heap_setCell_same w p 5 _ _ v h
theorem Blk.set6 {w:World} {p:Nat} {op a b n:Int} {v4 v5 v6:Value} (h:Blk w p op a b n v4 v5 v6) (v:Value):Blk (w.setCell ⟨p,6,none⟩ v) p op a b n v4 v5 v:=heap_setCell_same w p 6 _ _ v h
theorem Blk.lt {w:World} {p:Nat} {op a b n:Int} {v4 v5 v6:Value} (h:Blk w p op a b n v4 v5 v6):p<w.heap.size:=(Array.getElem?_eq_some_iff.1 h).1
def But (p:Nat) (w w':World):Prop:=w.grownBy w' (some p)
theorem But.below {p:Nat} {w w':World} (h:But p w w'):Below p w w'\/w.heap.size<p:=by
 by_cases hp:p<=w.heap.size
 ·exact .inl ⟨h.os,h.tape,h.output,h.size,fun k hk=>h.block k (by omega) (fun e=>by injection e with e;omega)⟩
 ·exact .inr (by omega)
def Pc (d:Nat):Type:=Ins (IL d) × Value × Value × Value
def pc7 {d:Nat} (p:Pc d):List Value:=[.int .i64 p.1.op,.int .i64 p.1.a,.int .i64 p.1.b,.int .i64 p.1.n,p.2.1,p.2.2.1,p.2.2.2]
def flat7 {d:Nat} (ps:List (Pc d)):List Value:=ps.flatMap pc7
structure PcOk {d:Nat} (w:World) (S:Nat->Prop) (p:Pc d):Prop where
 labels:IntsS w S p.2.1 p.1.labels
 body:AtS w S d p.2.2.1 p.1.body
 els:AtS w S d p.2.2.2 p.1.els
theorem PcOk.keep {d:Nat} {w w':World} {S S':Nat->Prop} (hk:∀k,S k->S' k/\w'.heap[k]?=w.heap[k]?) {p:Pc d} (h:PcOk w S p):PcOk w' S' p:=⟨h.labels.keep hk,AtS.keep hk _ _ _ h.body,AtS.keep hk _ _ _ h.els⟩
theorem flat7_get {d:Nat}:∀(ps:List (Pc d)) (i:Nat) (p:Pc d),ps[i]?=some p->∀k v,(pc7 p)[k]?=some v->(flat7 ps)[i*7+k]?=some v
 | [],_,_,h,_,_,_=>by simp at h
 | q :: r,0,p,h,k,v,hv=>by
  have:q=p:=by simpa using h
  subst this
  show (pc7 q++flat7 r)[0*7+k]?=some v
  have hk:k<(pc7 q).length:=(List.getElem?_eq_some_iff.1 hv).1
  rw [Nat.zero_mul,Nat.zero_add,List.getElem?_append_left hk]
  exact hv
 | q :: r,i+1,p,h,k,v,hv=>by
  have h':r[i]?=some p:=by simpa using h
  show (pc7 q++flat7 r)[(i+1)*7+k]?=some v
  rw [List.getElem?_append_right (by show 7<=_;omega),show (i+1)*7+k-(pc7 q).length=i*7+k by show (i+1)*7+k-7=_;omega]
  exact flat7_get r i p h' k v hv
theorem flat7_one {d:Nat} (ps:List (Pc d)) (h:∀p ∈ ps,p.2.1.oneCell'=true/\p.2.2.1.oneCell'=true/\p.2.2.2.oneCell'=true):∀u ∈ flat7 ps,u.oneCell'=true:=by
 intro u hu
 obtain ⟨p,hp,hu⟩:=List.mem_flatMap.1 hu
 obtain ⟨h1,h2,h3⟩:=h p hp
 simp only [pc7,List.mem_cons,List.mem_nil_iff,or_false] at hu
 rcases hu with rfl|rfl|rfl|rfl|rfl|rfl|rfl
 ·rfl
 ·rfl
 ·rfl
 ·rfl
 ·exact h1
 ·exact h2
 ·exact h3
theorem at_of_row {d:Nat} {w:World} {B:Nat} {t:Value} (l:List (Ins (IL d))) (ps:List (Pc d)) (hm:ps.map (·.1)=l) (hn:l.length<=9223372036854775807) (ho:w.ownsRow B 50 7 t ps.length (flat7 ps)) (hp:∀p ∈ ps,PcOk w (Since B w t.ownBlock) p) :
  AtS w (Since B w none) (d+1) t l:=by
 have hlen:ps.length=l.length:=by rw [<- hm,List.length_map]
 have hup:∀k,Since B w t.ownBlock k->Since B w none k/\w.heap[k]?=w.heap[k]?:=fun k hk=>⟨⟨hk.1,hk.2.1,by simp⟩,rfl⟩
 rcases ho.2 with ⟨rfl,h0⟩|⟨g,cap,cur,rfl,hbg,hg,_,_,_,_⟩
 ·have:l = []:=List.length_eq_zero_iff.1 (by omega)
  subst this
  exact ⟨by simp,.inl ⟨rfl,none,0,rfl⟩⟩
 ·have hgl:g<w.heap.size:=(Array.getElem?_eq_some_iff.1 hg).1
  refine ⟨hn,.inr ⟨g,0,cap,by rw [hlen],fun i x hx=>?_⟩⟩
  have hi:i<ps.length:=by rw [hlen];exact (List.getElem?_eq_some_iff.1 hx).1
  obtain ⟨p,hpi⟩:∃p,ps[i]?=some p:=⟨_,List.getElem?_eq_getElem hi⟩
  have hpx:p.1=x:=by
   have:(ps.map (·.1))[i]?=some p.1:=by rw [List.getElem?_map,hpi];rfl
   rw [hm,hx] at this
   exact (Option.some.inj this).symm
  subst hpx
  have hok:=(hp p (List.mem_of_getElem? hpi)).keep hup
  have hc:∀k v,(pc7 p)[k]?=some v->w.cell? ⟨g,0+i*7+k,none⟩=some v:=fun k v hv=>by
   have:=ho.cells (g:=g) rfl (i*7+k) v (flat7_get ps i p hpi k v hv)
   rw [add_addr] at this
   rw [Nat.add_assoc]
   exact this
  exact ⟨⟨hbg,hgl,by simp⟩,hc 0 _ rfl,hc 1 _ rfl,hc 2 _ rfl,hc 3 _ rfl,⟨_,hc 4 _ rfl,hok.labels⟩,⟨_,hc 5 _ rfl,hok.body⟩,⟨_,hc 6 _ rfl,hok.els⟩⟩
end Rep
theorem intInfo:(Tryz.prog.info? 3).map (fun i=>(i.zero,i.size,i.bytes))=some (some (.int .i64 0),1,8):=by kernel_rfl
theorem insInfo:(Tryz.prog.info? 50).map (fun i=>(i.zero,i.size,i.bytes))=some (some (.agg #[.int .i64 0,.int .i64 0,.int .i64 0,.int .i64 0,.slice none 0 0,.slice none 0 0,.slice none 0 0]),7,104):=by kernel_rfl
namespace Rep
theorem ints_cells {w:World} {ad:Addr} {n c:Nat} {l:List Int} (h:Ints w (.slice (some ad) n c) l):∀j u,(l.map fun z=>Value.int .i64 z)[j]?=some u->w.cell? (ad.add j)=some u:=fun j u hj=>by
 rw [List.getElem?_map] at hj
 obtain ⟨z,hz,rfl⟩:=Option.map_eq_some_iff.1 hj
 rcases h.2 with ⟨rfl,_⟩|⟨b,off,cap,hv,hc⟩
 ·simp at hz
 ·injection hv with hv
  injection hv with hv
  subst hv
  have:=hc j z hz
  rw [Nat.mul_one] at this
  rw [add_addr];exact this
theorem ints_none {w:World} {n c:Nat} {l:List Int} (h:Ints w (.slice none n c) l):l = []:=by
 rcases h.2 with ⟨h,_⟩|⟨_,_,_,h,_⟩
 ·exact h
 ·injection h with h;cases h
theorem ints_one (l:List Int):∀u ∈ l.map (fun z=>Value.int .i64 z),u.oneCell'=true:=fun u hu=>by
 obtain ⟨z,_,rfl⟩:=List.mem_map.1 hu;rfl
theorem ints_own {w:World} {B:Nat} {v:Value} {l:List Int} (h:w.ownsRow B 3 1 v l.length (l.map fun z=>Value.int .i64 z)) (hn:l.length<=9223372036854775807):IntsS w (Since B w none) v l:=by
 rcases h.2 with ⟨rfl,h0⟩|⟨g,cap,cur,rfl,hbg,hg,_,_,_,_⟩
 ·obtain rfl:l = []:=List.length_eq_zero_iff.1 h0
  exact ⟨hn,.inl ⟨rfl,none,0,rfl⟩⟩
 ·have hgl:g<w.heap.size:=(Array.getElem?_eq_some_iff.1 hg).1
  refine ⟨hn,.inr ⟨g,0,cap,rfl,fun i x hx=>⟨⟨hbg,hgl,by simp⟩,?_⟩⟩⟩
  have:=h.cells (g:=g) rfl i (.int .i64 x) (by rw [List.getElem?_map,hx];rfl)
  rw [add_addr] at this
  rw [Nat.mul_one];exact this
theorem below_grow1 {w w':World} {o:Obj} (h:(w.alloc o).grownBy w' (Value.slice (some ⟨w.heap.size,0,none⟩) 0 0).ownBlock):Below w.heap.size w w' :=
 ⟨h.os.trans rfl,h.tape.trans rfl,h.output.trans rfl,by have:=h.size;simp at this;omega,fun k hk=>by
  rw [h.block k (by simp;omega) (by show some k≠some w.heap.size;intro e;injection e with e;omega)]
  exact Below.heap_alloc w o k hk⟩
theorem own_on {w w':World} {B:Nat} {e:TypeId} {size:Nat} {v:Value} {n:Nat} {xs:List Value} (h:w.ownsRow B e size v n xs) (hb:Below w.heap.size w w'):w'.ownsRow B e size v n xs :=
 ⟨h.1,h.2.imp id fun ⟨g,cap,cur,h1,h2,h3,h4⟩=>⟨g,cap,cur,h1,h2,by rw [hb.block g (Array.getElem?_eq_some_iff.1 h3).1];exact h3,h4⟩⟩
def mkPc {d:Nat} (x:Ins (IL d)) (a b c:Value):Pc d:=(x,a,b,c)
theorem flat7_snoc {d:Nat} (ps:List (Pc d)) (p:Pc d):flat7 (ps++[p])=flat7 ps++pc7 p:=by
 unfold flat7;rw [List.flatMap_append];simp
theorem pc7_one {d:Nat} (p:Pc d) (h1:p.2.1.oneCell'=true) (h2:p.2.2.1.oneCell'=true) (h3:p.2.2.2.oneCell'=true):∀u ∈ pc7 p,u.oneCell'=true:=by
 have:=flat7_one [p] (fun q hq=>by rw [List.mem_singleton.1 hq];exact ⟨h1,h2,h3⟩)
 intro u hu
 exact this u (by show u ∈ List.flatMap pc7 [p];simpa using hu)
theorem pc7_cells {d:Nat} {w:World} {g:Nat} {x:Ins (IL d)} {v4 v5 v6:Value} (h:Blk w g x.op x.a x.b x.n v4 v5 v6):∀j u,(pc7 (mkPc x v4 v5 v6))[j]?=some u->w.cell? ((⟨g,0,none⟩:Addr).add j)=some u:=fun j u hj=>by
 rw [add_addr,Nat.zero_add]
 refine h.cell j u ?_
 rw [<- hj]
 exact List.getElem?_toArray
theorem own_slice {w:World} {B:Nat} {e:TypeId} {size:Nat} {v:Value} {n:Nat} {xs:List Value} (h:w.ownsRow B e size v n xs):∃o c,v=.slice o n c:=by
 rcases h.2 with ⟨rfl,rfl⟩|⟨g,cap,cur,rfl,_⟩
 ·exact ⟨none,0,rfl⟩
 ·exact ⟨_,_,rfl⟩
end Rep
end Go.Proofs.YtiailkiepndliaaGreatDoor

namespace Go.Proofs.YtiailkiepndliaaGreatDoor
open Go.RowKit
namespace Leb
theorem ofInt_toNat (x:Int):((BitVec.ofInt 64 x).toNat:Int)=x%18446744073709551616:=by
 rw [BitVec.toNat_ofInt]
 have h:0<=x%18446744073709551616:=Int.emod_nonneg _ (by decide)
 have e:((2 ^ 64:Nat):Int)=18446744073709551616:=by decide
 rw [e]
 omega
theorem and127_u64 (n:Int) (h0:0<=n) (h1:n<=18446744073709551615):bits .and .u64 n 127=n%128:=by
 rw [u64_and n 127 h0 (by omega) (by decide) (by decide)]
 have e:(127:Int).toNat=127:=rfl
 rw [e,nat_mask7]
 omega
theorem and127_i64 (n:Int):bits .and .i64 n 127=n%128:=by
 have h:=ofInt_toNat n
 show IntKind.i64.wrap (((BitVec.ofInt 64 n &&& BitVec.ofInt 64 127).toNat:Nat):Int)=_
 have e:(BitVec.ofInt 64 127).toNat=127:=by decide
 rw [BitVec.toNat_and,e,nat_mask7,IntKind.wrap_i64]
 omega
theorem byte_all (p:Nat->Bool) (h:(List.range 256).all p=true) (c:Int) (h0:0<=c) (h1:c<=255):p c.toNat=true:=by
 rw [List.all_eq_true] at h
 exact h _ (List.mem_range.2 (by omega))
theorem and127_u8 (c:Int) (h0:0<=c) (h1:c<=255):bits .and .u8 c 127=c%128:=by
 have:=byte_all (fun n=>bits .and .u8 (n:Int) 127 == (n:Int)%128) (by decide +kernel) c h0 h1
 simp only [beq_iff_eq] at this
 rwa [Int.toNat_of_nonneg h0] at this
theorem or128_u8 (c:Int) (h0:0<=c) (h1:c<=255):bits .or .u8 c 128=c%128+128:=by
 have:=byte_all (fun n=>bits .or .u8 (n:Int) 128 == (n:Int)%128+128) (by decide +kernel) c h0 h1
 simp only [beq_iff_eq] at this
 rwa [Int.toNat_of_nonneg h0] at this
theorem and64_u8 (c:Int) (h0:0<=c) (h1:c<=255):bits .and .u8 c 64=if 64<=c%128 then 64 else 0:=by
 have:=byte_all (fun n=>bits .and .u8 (n:Int) 64 == if 64<=(n:Int)%128 then 64 else 0) (by decide +kernel) c h0 h1
 simp only [beq_iff_eq] at this
 rwa [Int.toNat_of_nonneg h0] at this
theorem or_u64 (i:Nat) (x y:Int) (hx0:0<=x) (hx1:x<=18446744073709551615) (hx:x%2 ^ i=0) (hy0:0<=y) (hy:y<2 ^ i) (hy1:y<=18446744073709551615):bits .or .u64 x y=x+y:=by
 rw [u64_or x y hx0 (by omega) hy0 (by omega),nat_join i]
 ·omega
 ·have:((x.toNat%2 ^ i:Nat):Int)=0:=by rw [Int.natCast_emod,Int.toNat_of_nonneg hx0];simpa using hx
  exact_mod_cast this
 ·have:((y.toNat:Nat):Int)<((2 ^ i:Nat):Int):=by rw [Int.toNat_of_nonneg hy0];simpa using hy
  exact_mod_cast this
theorem or_u64' (i:Nat) (x y:Int) (hx0:0<=x) (hx1:x<=18446744073709551615) (hx:x%2 ^ i=0) (hy0:0<=y) (hy:y<2 ^ i) (hy1:y<=18446744073709551615):bits .or .u64 y x=y+x:=by
 rw [u64_or y x hy0 (by omega) hx0 (by omega),Nat.or_comm,nat_join i]
 ·omega
 ·have:((x.toNat%2 ^ i:Nat):Int)=0:=by rw [Int.natCast_emod,Int.toNat_of_nonneg hx0];simpa using hx
  exact_mod_cast this
 ·have:((y.toNat:Nat):Int)<((2 ^ i:Nat):Int):=by rw [Int.toNat_of_nonneg hy0];simpa using hy
  exact_mod_cast this
end Leb
end Go.Proofs.YtiailkiepndliaaGreatDoor

namespace Go.Proofs.YtiailkiepndliaaGreatDoor
open Go.RowKit
theorem lhide {p:Prop} (h:p):Hid p:=h
theorem lunhide {p:Prop} (h:Hid p):p:=h
theorem lret_int {k:IntKind} {a b:Int} (h:a=b):Ending.returned (.int k a)=.returned (.int k b):=by rw [h]
set_option maxHeartbeats 400000 in
theorem c26 (bits:Int) (w:World) (h:bits=32\/bits=64) :
  Calls Tryz.prog 112 #[.int .i64 bits] w fun e w'=>e=.returned (.int .i64 (Leb.most bits))/\w'=w:=by
 rcases h with rfl|rfl
 all_goals
  go_enter Tryz.func112,Tryz.ntmps112
  go_wp2
  go_ret
  exact ⟨rfl,rfl⟩
theorem lthree_ret {k:IntKind} {a b c a' b' c':Int} (h:(a,b,c)=(a',b',c')):Ending.returned (.tuple #[.int k a,.int .i64 b,.int .i64 c])=.returned (.tuple #[.int k a',.int .i64 b',.int .i64 c']):=by
 simp only [Prod.mk.injEq] at h
 rw [h.1,h.2.1,h.2.2]
end Go.Proofs.YtiailkiepndliaaGreatDoor

namespace Go.Proofs.YtiailkiepndliaaGreatDoor
open Go.RowKit
theorem three_ret' {a b:Int} {p p' q q':Bool} (h:a=b) (h':p=p') (h'':q=q'):Ending.returned (.tuple #[.int .u8 a,.bool p,.bool q])=.returned (.tuple #[.int .u8 b,.bool p',.bool q']):=by rw [h,h',h'']
set_option maxHeartbeats 400000 in
theorem c27_end (ba bs:Nat) (t:ByteArray) (w:World) (hs:w.cell? ⟨bs,0,none⟩=some (.string t)) (ha:w.cell? ⟨ba,0,none⟩=some (.int .i64 t.size)) :
  Calls Tryz.prog 116 #[.pointer (some ⟨ba,0,none⟩),.pointer (some ⟨bs,0,none⟩)] w fun e w'=>e=.returned (.tuple #[.int .u8 0,.bool false,.bool false])/\w'=w:=by
 go_enter Tryz.func116,Tryz.ntmps116
 go_wp2
 go_ret3
 exact ⟨rfl,rfl⟩
set_option maxHeartbeats 400000 in
theorem c27_on (ba bs k:Nat) (t:ByteArray) (q:Bool) (w:World) (hlen:t.size<=140737488351232) (hs:w.cell? ⟨bs,0,none⟩=some (.string t)) (ha:w.cell? ⟨ba,0,none⟩=some (.int .i64 k)) (hf:w.frozen? ⟨ba,0,none⟩=false) (hk:k<t.size)
  (hq:decide (Leb.bt t k<128)=q) :
  Calls Tryz.prog 116 #[.pointer (some ⟨ba,0,none⟩),.pointer (some ⟨bs,0,none⟩)] w fun e w' =>
   e=.returned (.tuple #[.int .u8 (Leb.bt t k%128),.bool q,.bool true])/\w'=w.setCell ⟨ba,0,none⟩ (.int .i64 ((k:Int)+1)):=by
 have hg:=Leb.get_bt t
 have hbd:=Leb.bt_bd t k
 have hmk:=Leb.and127_u8 _ hbd.1 hbd.2
 have hne:((k:Int) == (t.size:Int))=false:=by simp;omega
 have HQ:=lhide hq
 clear hq
 go_enter Tryz.func116,Tryz.ntmps116
 go_wp2
 go_ret3
 exact ⟨three_ret' rfl (lunhide HQ) rfl,rfl⟩
set_option maxHeartbeats 400000 in
theorem c21_arg (s:ByteArray) (a bits:Int) (w:World) (hask:Leb.asks s.size a bits=false) :
  Calls Tryz.prog 102 #[.string s,.int .i64 a,.int .i64 bits] w fun e w' =>
   e=.returned (.tuple #[.agg #[.int .u64 0,.int .i64 0,.int .u8 0],.int .i64 1])/\Below w.heap.size w w':=by
 have hno:=Leb.asks_no hask
 clear hask
 have hway:((bits != 32)=true/\(bits != 64)=true)\/(((bits != 32)=false\/((bits != 32)=true/\(bits != 64)=false))/\(a<0\/(0<=a/\(s.size:Int)<a))):=by
  simp only [bne_iff_ne,bne_eq_false_iff_eq]
  omega
 clear hno
 rcases hway with ⟨h1,h2⟩|⟨h1|⟨h1,h2⟩,h3|⟨h3,h4⟩⟩
 all_goals
  go_enter Tryz.func102,Tryz.ntmps102
  go_wp2
  exact bodyPost_ret (v:=.tuple #[.agg #[.int .u64 0,.int .i64 0,.int .u8 0],.int .i64 1]) (by simp [results,Tryz.results102,go_sem]) rfl ⟨rfl,by first|exact ((Below.refl _ _).alloc (Nat.le_refl _) _)⟩
set_option maxHeartbeats 400000 in
theorem c25 (t:ByteArray) (w:World) :
  Calls Tryz.prog 111 #[.string t] w fun e w' =>
   e=.returned (.func (.func 116) #[] #[.pointer (some ⟨w.heap.size+1,0,none⟩),.pointer (some ⟨w.heap.size,0,none⟩)])/\w'=(w.alloc (.cells #[.string t] 9)).alloc (.cells #[.int .i64 0] 3):=by
 go_enter Tryz.func111,Tryz.ntmps111
 go_wp2
 go_ret
 exact ⟨rfl,rfl⟩
theorem bt_extract (s:ByteArray) (a i:Nat) (ha:a<=s.size):Leb.bt (s.extract a s.size) i=Leb.from_ s a i:=by
 unfold Leb.from_ Leb.bt
 have hsz:(s.extract a s.size).size=s.size-a:=by simp [ByteArray.size_extract]
 by_cases h:a+i<s.size
 ·rw [dif_pos (by omega),dif_pos h]
  simp [ByteArray.getElem_extract]
 ·rw [dif_neg (by omega),dif_neg h]
theorem step_low (f:Nat->Int) (k:Nat) (hk:k<=9):Go.bits .or .u64 (Leb.val f k) (IntKind.u64.wrap (f k%128*2 ^ (7*k)))=Leb.low64 (Leb.val f (k+1)):=by
 have hv:=Leb.val_bd f k
 have hg:0<=f k%128/\f k%128<=127:=by omega
 have hkk:k=0\/k=1\/k=2\/k=3\/k=4\/k=5\/k=6\/k=7\/k=8\/k=9:=by omega
 have e:Leb.val f (k+1)=Leb.val f k+128 ^ k*(f k%128):=rfl
 rw [e,IntKind.wrap_u64]
 unfold Leb.low64
 generalize Leb.val f k=v at *
 generalize f k%128=g at *
 clear e
 rcases hkk with rfl|rfl|rfl|rfl|rfl|rfl|rfl|rfl|rfl|rfl
 all_goals
  simp only [Int.reducePow,Nat.reduceMul,Int.mul_one,Int.one_mul] at hv ⊢
 ·rw [Leb.or_u64' 0 _ _ (by omega) (by omega) (by simp only [Int.reducePow];omega) (by omega) (by simp only [Int.reducePow];omega) (by omega)];omega
 ·rw [Leb.or_u64' 7 _ _ (by omega) (by omega) (by simp only [Int.reducePow];omega) (by omega) (by simp only [Int.reducePow];omega) (by omega)];omega
 ·rw [Leb.or_u64' 14 _ _ (by omega) (by omega) (by simp only [Int.reducePow];omega) (by omega) (by simp only [Int.reducePow];omega) (by omega)];omega
 ·rw [Leb.or_u64' 21 _ _ (by omega) (by omega) (by simp only [Int.reducePow];omega) (by omega) (by simp only [Int.reducePow];omega) (by omega)];omega
 ·rw [Leb.or_u64' 28 _ _ (by omega) (by omega) (by simp only [Int.reducePow];omega) (by omega) (by simp only [Int.reducePow];omega) (by omega)];omega
 ·rw [Leb.or_u64' 35 _ _ (by omega) (by omega) (by simp only [Int.reducePow];omega) (by omega) (by simp only [Int.reducePow];omega) (by omega)];omega
 ·rw [Leb.or_u64' 42 _ _ (by omega) (by omega) (by simp only [Int.reducePow];omega) (by omega) (by simp only [Int.reducePow];omega) (by omega)];omega
 ·rw [Leb.or_u64' 49 _ _ (by omega) (by omega) (by simp only [Int.reducePow];omega) (by omega) (by simp only [Int.reducePow];omega) (by omega)];omega
 ·rw [Leb.or_u64' 56 _ _ (by omega) (by omega) (by simp only [Int.reducePow];omega) (by omega) (by simp only [Int.reducePow];omega) (by omega)];omega
 ·rw [Leb.or_u64' 63 _ _ (by omega) (by omega) (by simp only [Int.reducePow];omega) (by omega) (by simp only [Int.reducePow];omega) (by omega)];omega
structure RdInv (B:Nat) (w wr:World) (t:ByteArray) (k:Nat) (l:Int):Prop where
 out:wr.heap[B]?=some (.cells #[.int .u64 0,.int .i64 0,.int .u8 0] 132 (0,0))
 str:wr.heap[B+1]?=some (.cells #[.string t] 9 (0,0))
 pos:wr.heap[B+1+1]?=some (.cells #[.int .i64 k] 3 (0,0))
 rd:wr.heap[B+1+1+1]?=some (.cells #[.int .u64 l,.int .i64 k,.int .u8 0] 132 (0,0))
 bel:Below B w wr
theorem set_here {w:World} {b j:Nat} {u:Value} {cs:Array Value} {t:TypeId} (h:w.heap[b]?=some (.cells cs t (0,0))):(w.setCell ⟨b,j,none⟩ u).heap[b]?=some (.cells (cs.setIfInBounds j u) t (0,0)):=by
 simp [World.setCell,Array.getElem?_modify,h]
theorem set_there {w:World} {b c j:Nat} {u:Value} {x:Obj} (h:w.heap[c]?=some x) (hne:c≠b):(w.setCell ⟨b,j,none⟩ u).heap[c]?=some x:=by
 rw [Below.heap_setCell _ _ _ _ hne];exact h
theorem RdInv.draws {B:Nat} {w wr:World} {t:ByteArray} {k:Nat} {l:Int} (h:RdInv B w wr t k l) (n:Nat):RdInv B w (wr.drewN n) t k l :=
 ⟨h.out,h.str,h.pos,h.rd,⟨h.bel.os,h.bel.tape,h.bel.output,h.bel.size,h.bel.block⟩⟩
theorem RdInv.next {B:Nat} {w wr:World} {t:ByteArray} {k:Nat} {l:Int} (h:RdInv B w wr t k l) (l':Int) :
  RdInv B w (((wr.setCell ⟨B+1+1,0,none⟩ (.int .i64 ((k:Int)+1))).setCell ⟨B+1+1+1,0,none⟩ (.int .u64 l')).setCell ⟨B+1+1+1,1,none⟩ (.int .i64 ((k:Int)+1))) t (k+1) l' :=
 ⟨set_there (set_there (set_there h.out (by omega)) (by omega)) (by omega),set_there (set_there (set_there h.str (by omega)) (by omega)) (by omega),set_there (set_there (set_here h.pos) (by omega)) (by omega),
  set_here (set_here (set_there h.rd (by omega))),((h.bel.setCell (by show B<=B+1+1;omega) _).setCell (by show B<=B+1+1+1;omega) _).setCell (by show B<=B+1+1+1;omega) _⟩
theorem cell_of {w:World} {b j:Nat} {cs:Array Value} {t:TypeId} (h:w.heap[b]?=some (.cells cs t (0,0))):w.cell? ⟨b,j,none⟩=cs[j]?:=by simp [World.cell?,h]
theorem free_of {w:World} {b j:Nat} {cs:Array Value} {t:TypeId} (h:w.heap[b]?=some (.cells cs t (0,0))):w.frozen? ⟨b,j,none⟩=false:=by simp [World.frozen?,h]
structure RdMid (B:Nat) (w wr:World) (t:ByteArray) (k:Nat) (l:Int):Prop where
 out:wr.heap[B]?=some (.cells #[.int .u64 0,.int .i64 0,.int .u8 0] 132 (0,0))
 str:wr.heap[B+1]?=some (.cells #[.string t] 9 (0,0))
 pos:wr.heap[B+1+1]?=some (.cells #[.int .i64 ((k:Int)+1)] 3 (0,0))
 rd:wr.heap[B+1+1+1]?=some (.cells #[.int .u64 l,.int .i64 k,.int .u8 0] 132 (0,0))
 bel:Below B w wr
theorem RdInv.mid {B:Nat} {w wr:World} {t:ByteArray} {k:Nat} {l:Int} (h:RdInv B w wr t k l) (l':Int) (n:Nat) :
  RdMid B w (((wr.drewN n).setCell ⟨B+1+1,0,none⟩ (.int .i64 ((k:Int)+1))).setCell ⟨B+1+1+1,0,none⟩ (.int .u64 l')).drew t k l' :=
 ⟨set_there (set_there h.out (by omega)) (by omega),set_there (set_there h.str (by omega)) (by omega),set_there (set_here h.pos) (by omega),
  set_here (set_there h.rd (by omega)),Below.drew (((h.draws n).bel.setCell (by show B<=B+1+1;omega) _).setCell (by show B<=B+1+1+1;omega) _)⟩
theorem RdMid.next {B:Nat} {w wr:World} {t:ByteArray} {k:Nat} {l:Int} (h:RdMid B w wr t k l):RdInv B w (wr.setCell ⟨B+1+1+1,1,none⟩ (.int .i64 ((k:Int)+1))) t (k+1) l :=
 ⟨set_there h.out (by omega),set_there h.str (by omega),set_there h.pos (by omega),set_here h.rd,h.bel.setCell (by show B<=B+1+1+1;omega) _⟩
def rdVal (f:Nat->Int) (k:Nat):Value :=
 if k=0 then .tuple #[.agg #[.int .u64 0,.int .i64 0,.int .u8 0],.int .i64 10] else .tuple #[.agg #[.int .u64 (Leb.low64 (Leb.val f k)),.int .i64 k,.int .u8 (f (k-1))],.int .i64 0]
theorem rdVal_none {f:Nat->Int} {k:Nat} (h:k=0):rdVal f k=.tuple #[.agg #[.int .u64 0,.int .i64 0,.int .u8 0],.int .i64 10]:=by unfold rdVal;rw [if_pos h]
theorem rdVal_some {f:Nat->Int} {k n:Nat} (h:k=n+1) (hf:0<=f n/\f n<128):rdVal f k=.tuple #[.agg #[.int .u64 (Leb.low64 (Leb.val f (n+1))),.int .i64 ((n:Int)+1),.int .u8 (f n%128)],.int .i64 0]:=by
 subst h
 unfold rdVal
 rw [if_neg (by omega),Nat.add_sub_cancel,show f n%128=f n by omega]
 rfl
theorem heap_alloc_of {w:World} {o x:Obj} {b:Nat} (h:w.heap[b]?=some x):(w.alloc o).heap[b]?=some x:=by
 rw [Below.heap_alloc _ _ _ (lt_of_block h)];exact h
theorem heap_alloc_new' (w:World) (o:Obj) {b:Nat} (h:b=w.heap.size):(w.alloc o).heap[b]?=some o:=by
 subst h
 show (w.heap.push o)[w.heap.size]?=_
 simp
theorem RdInv.start (w:World) (t:ByteArray) :
  RdInv w.heap.size w ((((w.alloc (.cells #[.int .u64 0,.int .i64 0,.int .u8 0] 132)).alloc (.cells #[.string t] 9)).alloc (.cells #[.int .i64 0] 3)).alloc (.cells #[.int .u64 0,.int .i64 0,.int .u8 0] 132)) t 0 (Leb.low64 (Leb.val (Leb.bt t) 0)) :=
 ⟨heap_alloc_of (heap_alloc_of (heap_alloc_of (heap_alloc_new' _ _ rfl))),heap_alloc_of (heap_alloc_of (heap_alloc_new' _ _ (by simp))),heap_alloc_of (heap_alloc_new' _ _ (by simp)),heap_alloc_new' _ _ (by simp),
  ((((Below.refl _ _).alloc (Nat.le_refl _) _).alloc (by simp) _).alloc (by simp;omega) _).alloc (by simp;omega) _⟩
theorem RdInv.lower {B:Nat} {w wr wr':World} {t:ByteArray} {k:Nat} {l l':Int} (h:RdInv B w wr t k l) (h':RdInv B w wr' t (k+1) l') (hk:k<10) :
  10-(RowKit.intOf ((wr'.cell? ⟨B+1+1,0,none⟩).getD (.int .i64 0))).toNat<10-(RowKit.intOf ((wr.cell? ⟨B+1+1,0,none⟩).getD (.int .i64 0))).toNat:=by
 rw [cell_of h.pos,cell_of h'.pos]
 simp [RowKit.intOf]
 omega
theorem bel_set {B b j:Nat} {w wr:World} {u:Value} (h:Below B w wr) (hb:B<=b):Below B w (wr.setCell ⟨b,j,none⟩ u):=h.setCell hb u
theorem ret_val {a b:Value} (h:b=a):Ending.returned a=.returned b:=by rw [h]
end Go.Proofs.YtiailkiepndliaaGreatDoor

