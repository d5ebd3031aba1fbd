/- Texts that the claim needs. -/
import Derived.Test.YtkflfohoinbenaaQTS0
import Derived.WalkMore
namespace Go.Proofs.Ytkflfohoinbenaa
open Go.RowKit Lx Pz Rep
set_option linter.unusedVariables false
namespace Pz
theorem exO.val {B:Nat} {t v:Value} {w:World} (h:exO B t v w):∃k x y n u z a,v=.agg #[.int .i64 k,.string x,.string y,.int .i64 n,u,z,.int .i64 a]/\u.oneCell'=true/\z.oneCell'=true:=by
 obtain ⟨d,k,x,y,n,es,ps,a,u,z,_,h1,h2,h3⟩:=h
 obtain ⟨o1,c1,rfl⟩:=Row.len h2
 obtain ⟨o2,c2,rfl⟩:=Row.len h3
 exact ⟨k,x,y,n,_,_,a,h1,rfl,rfl⟩
theorem paO.val {B:Nat} {t v:Value} {w:World} (h:paO B t v w):∃k x n u a,v=.agg #[.int .i64 k,.string x,.int .i64 n,u,.int .i64 a]/\u.oneCell'=true:=by
 obtain ⟨d,k,x,n,es,a,u,_,h1,h2⟩:=h
 obtain ⟨o1,c1,rfl⟩:=Row.len h2
 exact ⟨k,x,n,_,a,h1,rfl⟩
theorem tyO.val {B:Nat} {t v:Value} {w:World} (h:tyO B t v w):∃k x n u,v=.agg #[.int .i64 k,.string x,.int .i64 n,u]/\u.oneCell'=true:=by
 obtain ⟨d,k,x,n,es,u,_,h1,h2⟩:=h
 obtain ⟨o1,c1,rfl⟩:=Row.len h2
 exact ⟨k,x,n,_,h1,rfl⟩
theorem exO.on {B C:Nat} {t v:Value} {w w':World} (h:exO B t v w) (hb:Abv B w w') (hc:C<=B):exO C t v w':=by obtain ⟨d,h⟩:=h;exact ⟨d,(h.but hb).lo hc⟩
theorem paO.on {B C:Nat} {t v:Value} {w w':World} (h:paO B t v w) (hb:Abv B w w') (hc:C<=B):paO C t v w':=by obtain ⟨d,h⟩:=h;exact ⟨d,(h.but hb).lo hc⟩
theorem tyO.on {B C:Nat} {t v:Value} {w w':World} (h:tyO B t v w) (hb:Abv B w w') (hc:C<=B):tyO C t v w':=by obtain ⟨d,h⟩:=h;exact ⟨d,(h.but hb).lo hc⟩
theorem Abv.lo {p q:Nat} {w w':World} (h:Abv q w w') (hq:q<=p):Abv p w w':=fun k hk hl=>h k (Nat.le_trans hq hk) hl
end Pz
set_option linter.unusedVariables false
set_option linter.unusedVariables false
set_option linter.unusedVariables false
namespace Pz
theorem But.blk {p g:Nat} {u u':World} {T:TypeId} {cs:Array Value} (h:But p u u') (hg:u.heap[g]?=some (.cells cs T (0,0))) (hp:g≠p):u'.heap[g]?=some (.cells cs T (0,0)):=by
 rw [h.block g (Array.getElem?_eq_some_iff.1 hg).1 hp];exact hg
theorem Abv.trans {p:Nat} {u v w:World} (h:Abv p u v) (hs:u.heap.size<=v.heap.size) (h':Abv p v w):Abv p u w:=fun k hk hl=>(h' k hk (Nat.lt_of_lt_of_le hl hs)).trans (h k hk hl)
end Pz
namespace Pz
def Ab1 (B:Nat) (g:Option Nat) (w w':World):Prop:=∀k,B<=k->k<w.heap.size->some k≠g->w'.heap[k]?=w.heap[k]?
def Rob (V:Value->Value->World->Prop) (B:Nat) (g:Option Nat) (w:World) (t v:Value):Prop:=∀w',Ab1 B g w w'->V t v w'
section
variable {V:Value->Value->World->Prop} {B:Nat} {g g':Option Nat} {w w':World} {t v:Value}
theorem Rob.out (h:Rob V B g w t v):V t v w:=h w fun _ _ _ _=>rfl
theorem Rob.on (h:Rob V B g w t v) (hb:Ab1 B g w w') (hs:w.heap.size<=w'.heap.size) (hg:g'=g\/g'=some w.heap.size):Rob V B g' w' t v:=fun u hu=>h u fun k hk hl hn =>
 (hu k hk (Nat.lt_of_lt_of_le hl hs) (by
  rcases hg with rfl|rfl
  ·exact hn
  ·intro e;injection e with e;omega)).trans (hb k hk hl hn)
def Sv (V:Value->Value->World->Prop) (B:Nat) (e:TypeId) (sz:Nat) (w:World) (v:Value) (ts:List Value):Prop :=
 ∃xs,w.ownsRow B e sz v ts.length xs/\∀k t,ts[k]?=some t->∃cs:Array Value,cs.size=sz/\Rob V B v.ownBlock w t (.agg cs)/\∀j u,cs[j]?=some u->xs[k*sz+j]?=some u
variable {e:TypeId} {sz:Nat} {ts:List Value}
theorem Sv.nil (w:World):Sv V B e sz w (.slice none 0 0) []:=⟨[],⟨by simp,.inl ⟨rfl,rfl⟩⟩,fun k t h=>by simp at h⟩
theorem Sv.on (h:Sv V B e sz w v ts) (hb:Abv B w w') (hs:w.heap.size<=w'.heap.size):Sv V B e sz w' v ts:=by
 obtain ⟨xs,⟨hl,ho⟩,hx⟩:=h
 refine ⟨xs,⟨hl,?_⟩,fun k t hk=>?_⟩
 ·rcases ho with ho|⟨g,cap,cur,h1,h2,h3,h4⟩
  ·exact .inl ho
  ·exact .inr ⟨g,cap,cur,h1,h2,by rw [hb g h2 (Array.getElem?_eq_some_iff.1 h3).1];exact h3,h4⟩
 ·obtain ⟨cs,hc,hr,hj⟩:=hx k t hk
  exact ⟨cs,hc,hr.on (fun k hk hl _=>hb k hk hl) hs (.inl rfl),hj⟩
theorem Sv.app {v':Value} {xs:List Value} {cs:Array Value} (ho:w.ownsRow B e sz v ts.length xs) (hx:∀k t,ts[k]?=some t->∃cs:Array Value,cs.size=sz/\Rob V B v.ownBlock w t (.agg cs)/\∀j u,cs[j]?=some u->xs[k*sz+j]?=some u)
  (ho':w'.ownsRow B e sz v' (ts.length+1) (xs++cs.toList)) (hg:w.grownBy w' v.ownBlock) (hv:v'.ownBlock=v.ownBlock\/v'.ownBlock=some w.heap.size) (hc:cs.size=sz) (hr:Rob V B v.ownBlock w t (.agg cs)):Sv V B e sz w' v' (ts++[t]):=by
 have hb:Ab1 B v.ownBlock w w':=fun k _ hl hn=>hg.block k hl hn
 refine ⟨xs++cs.toList,by simpa using ho',fun k s hk=>?_⟩
 by_cases hlt:k<ts.length
 ·rw [List.getElem?_append_left hlt] at hk
  obtain ⟨ds,hd,hq,hj⟩:=hx k s hk
  refine ⟨ds,hd,hq.on hb hg.size hv,fun j u hu=>?_⟩
  have:=hj j u hu
  rw [List.getElem?_append_left (List.getElem?_eq_some_iff.1 this).1];exact this
 ·rw [List.getElem?_append_right (by omega)] at hk
  have hk0:k-ts.length=0:=by
   have:=(List.getElem?_eq_some_iff.1 hk).1;simp at this;omega
  have hke:k=ts.length:=by omega
  subst hke
  simp at hk
  subst hk
  refine ⟨cs,hc,hr.on hb hg.size hv,fun j u hu=>?_⟩
  rw [List.getElem?_append_right (by rw [ho.1];omega),ho.1,Nat.add_sub_cancel_left]
  simpa using hu
theorem one_depth {P:Nat->Nat->Value->Prop} (hup:∀d e k t,d<=e->P d k t->P e k t):∀n,(∀k t,k<n->ts[k]?=some t->∃d,P d k t)->∃d,∀k t,k<n->ts[k]?=some t->P d k t
 | 0,_=>⟨0,fun k t h=>absurd h (Nat.not_lt_zero _)⟩
 | n+1,h=>by
  obtain ⟨d,hd⟩:=one_depth hup n fun k t hk=>h k t (by omega)
  cases hn:ts[n]? with
  | none =>
   refine ⟨d,fun k t hk ht=>hd k t ?_ ht⟩
   rcases Nat.lt_or_ge k n with h1|h1
   ·exact h1
   ·have:k=n:=by omega
    subst this;rw [hn] at ht;cases ht
  | some s =>
   obtain ⟨d',hd'⟩:=h n s (by omega) hn
   refine ⟨d+d',fun k t hk ht=>?_⟩
   rcases Nat.lt_or_ge k n with h1|h1
   ·exact hup d _ k t (by omega) (hd k t h1 ht)
   ·have:k=n:=by omega
    subst this;rw [hn] at ht;injection ht with ht;subst ht
    exact hup d' _ _ _ (by omega) hd'
theorem Sv.row {F:Nat->Nat->Nat->Value->Prop} (hF:∀d b o t,F d b o t->F (d+1) b o t) (h:Sv V B e sz w v ts) (hn:ts.length<=9223372036854775807)
  (hV:∀(t:Value) (cs:Array Value) (b o:Nat),V t (.agg cs) w->B<=b->(∀j u,cs[j]?=some u->w.cell? ⟨b,o+j,none⟩=some u)->∃d,F d b o t):∃d,Row sz (F d) v ts:=by
 obtain ⟨xs,hown,hx⟩:=h
 rcases hown.2 with ⟨rfl,h0⟩|⟨g,cap,cur,rfl,hB,hg,_⟩
 ·exact ⟨0,hn,.inl ⟨List.eq_nil_of_length_eq_zero h0,none,0,rfl⟩⟩
 ·have hcell:=hown.cells (g:=g) rfl
  obtain ⟨d,hd⟩:=one_depth (ts:=ts) (P:=fun d k t=>F d g (k*sz) t) (fun d e k t hde hp=>up_le hF hde hp) ts.length fun k t _ hk=>by
   obtain ⟨cs,hc,hr,hj⟩:=hx k t hk
   refine hV t cs g (k*sz) hr.out hB fun j u hu=>?_
   have:=hcell _ u (hj j u hu)
   have ha:(⟨g,0,none⟩:Addr).add (k*sz+j)=⟨g,k*sz+j,none⟩:=by
    by_cases h0:k*sz+j=0
    ·rw [h0];rfl
    ·simp only [Addr.add,if_neg h0,Nat.zero_add]
   rw [ha] at this;exact this
  exact ⟨d,hn,.inr ⟨g,0,cap,rfl,fun k t hk=>by rw [Nat.zero_add];exact hd k t (List.getElem?_eq_some_iff.1 hk).1 hk⟩⟩
end
theorem ty_cells {B:Nat} {w:World} {t:Value} {cs:Array Value} {b o:Nat} (h:tyO B t (.agg cs) w) (hB:B<=b) (hc:∀j u,cs[j]?=some u->w.cell? ⟨b,o+j,none⟩=some u):∃d,TyC B w d b o t:=by
 obtain ⟨d,k,x,n,es,u,h0,h1,h2⟩:=h
 injection h1 with h1
 subst h1
 exact ⟨d+1,hB,k,x,n,es,u,h0,hc 0 _ rfl,hc 1 _ rfl,hc 2 _ rfl,hc 3 _ rfl,h2⟩
end Pz
namespace Pz
theorem tyInfo:(Try.prog.info? 34).map (fun i=>(i.zero,i.size,i.bytes))=some (some (.agg zTy),4,56):=by kernel_rfl
theorem But.grown {w wr w9:World} {p:Nat} {o:Option Nat} (h:But p w wr) (hg:wr.grownBy w9 o) (ho:∀k,o=some k->w.heap.size<=k):But p w w9 :=
 ⟨hg.os.trans h.os,hg.tape.trans h.tape,hg.output.trans h.output,Nat.le_trans h.size hg.size,fun k hk hp=>(hg.block k (Nat.lt_of_lt_of_le hk h.size) (fun e=>by have:=ho k e.symm;omega)).trans (h.block k hk hp)⟩
theorem own_sl {w:World} {B:Nat} {e:TypeId} {size:Nat} {v:Value} {n:Nat} {xs:List Value} (h:w.ownsRow B e size v n xs):∃o c,v=.slice o n c:=by
 rcases h.2 with ⟨rfl,rfl⟩|⟨g,cap,cur,rfl,_⟩
 ·exact ⟨_,_,rfl⟩
 ·exact ⟨_,_,rfl⟩
theorem new_cells (w:World) (cs:Array Value) (T:TypeId):∀(j:Nat) (u:Value),cs.toList[j]?=some u->(w.alloc (.cells cs T)).cell? ((⟨w.heap.size,0,none⟩:Addr).add j)=some u:=fun j u hj=>by
 have ha:(⟨w.heap.size,0,none⟩:Addr).add j=⟨w.heap.size,j,none⟩:=by
  by_cases h0:j=0
  ·rw [h0];rfl
  ·simp only [Addr.add,if_neg h0,Nat.zero_add]
 rw [ha]
 exact put_cell (heap_alloc_new w _) j u (by simpa using hj)
def left (p n:Nat) (w:World):Nat:=match w.cell? ⟨p,1,none⟩ with|some (.int _ k)=>n-k.toNat|_=>0
end Pz
namespace Pz
end Pz
set_option linter.unusedVariables false
namespace Pz
def Agr (H:List Nat) (p:Nat) (u w':World):Prop:=∀k,k<u.heap.size->k≠p->k ∉ H->w'.heap[k]?=u.heap[k]?
theorem Agr.refl (H:List Nat) (p:Nat) (u:World):Agr H p u u:=fun _ _ _ _=>rfl
theorem Agr.more {H H':List Nat} {p:Nat} {u w':World} (h:Agr H p u w') (hs:∀k ∈ H,k ∈ H'):Agr H' p u w':=fun k hk hp hn=>h k hk hp fun hm=>hn (hs k hm)
abbrev Bk:=Nat × Array Value × TypeId
section
variable {w0 w u u':World} {p:Nat} {L:List Tk} {vL:Value} {en:Int} {H:List Nat} {i j:Nat} {Bs:List Bk} {Ts:List (World->Prop)}
end
theorem exO.at_ {B:Nat} {t:Value} {w:World} {k:Int} {x y:ByteArray} {n:Int} {u z:Value} {a:Int} (h:exO B t (.agg #[.int .i64 k,.string x,.string y,.int .i64 n,u,z,.int .i64 a]) w):atV t=a:=by
 obtain ⟨d,k',x',y',n',es,ps,a',u',z',h0,h1,_⟩:=h
 subst h0
 rw [atV_nd]
 injection h1 with h1
 have:=congrArg (fun l:Array Value=>l[6]?) h1
 simpa using this.symm
def RowE (B:Nat) (v:Value) (ts:List Value) (w:World):Prop:=∃d,Row 7 (ExC B w d) v ts
def RowP (B:Nat) (v:Value) (ts:List Value) (w:World):Prop:=∃d,Row 5 (PaC B w d) v ts
def RowT (B:Nat) (v:Value) (ts:List Value) (w:World):Prop:=∃d,Row 4 (TyC B w d) v ts
theorem RowE.nil (B:Nat) (w:World):RowE B (.slice none 0 0) [] w:=⟨0,row_nil _ _⟩
theorem RowP.nil (B:Nat) (w:World):RowP B (.slice none 0 0) [] w:=⟨0,row_nil _ _⟩
theorem RowT.nil (B:Nat) (w:World):RowT B (.slice none 0 0) [] w:=⟨0,row_nil _ _⟩
theorem tyN {B:Nat} {w:World} {v:Value} {es:List Value} (k:Int) (x:ByteArray) (n:Int) (he:RowT B v es w):tyO B (nd k x e0 n es [] 0) (.agg #[.int .i64 k,.string x,.int .i64 n,v]) w:=by
 obtain ⟨d,hd⟩:=he
 exact ⟨d,k,x,n,es,v,rfl,rfl,hd⟩
section
variable {w0 w u u':World} {p:Nat} {L:List Tk} {vL:Value} {en:Int} {H:List Nat} {i j:Nat} {Bs:List Bk} {Ts:List (World->Prop)}
end
end Pz
end Go.Proofs.Ytkflfohoinbenaa
namespace Go.Proofs.Ytkflfohoinbenaa
open Go.RowKit Lx Pz
set_option linter.unusedVariables false
namespace Pz
section
variable {L:List Tk} {en:Int} {E T A:Nat->Rd Value}
end
end Pz
end Go.Proofs.Ytkflfohoinbenaa
namespace Go.Proofs.Ytkflfohoinbenaa
open Go.RowKit Rep
set_option linter.unusedVariables false
namespace Reg
def lowOk (ops:Array Oper) (n:Nat):Bool:=decide (ops.size=n) && (List.range ops.size).all (fun i=>(depsAt ops i).all (fun j=>decide (j<i)))
def dstOkG (ops:Array Oper) (n:Nat) (dst:Nat->Nat) (size:Nat):Bool :=
 (List.range n).all fun i=>match ops[i]? with
  | some o=>o.dst == some (dst i) && decide (dst i<size)
  | none=>false
theorem dst_okG {ops:Array Oper} {n:Nat} {dst:Nat->Nat} {size:Nat} (h:dstOkG ops n dst size=true):∀i,i<n->∃o,ops[i]?=some o/\o.dst=some (dst i)/\dst i<size:=fun i hi=>by
 unfold dstOkG at h
 have:=(List.all_eq_true.1 h) i (List.mem_range.2 hi)
 cases ho:ops[i]? with
 | none=>rw [ho] at this;cases this
 | some o =>
  rw [ho] at this
  simp only [Bool.and_eq_true,beq_iff_eq,decide_eq_true_eq] at this
  exact ⟨o,rfl,this.1,this.2⟩
theorem get_of_eval {a:Act} {k:Nat} {b:Bool} (h:a.eval (.tmp k)=.bool b):a.tmps[k]?=some (.bool b):=by
 have h':=ev_get h
 cases hk:a.tmps[k]? with
 | none=>rw [hk] at h';exact absurd h' (by simp [undef])
 | some v=>rw [hk] at h';exact congrArg some h'
theorem wants {ops:Array Oper} {o oj:Oper} {a:Act} {j k:Nat} {b want:Bool} (hg:o.guard=some (j,want)) (hj:ops[j]?=some oj) (hd:oj.dst=some k) (h:a.eval (.tmp k)=.bool b):Region.wanted o (yielded ops a.tmps)=(b == want):=by
 have hy:yielded ops a.tmps j=some b:=by
  unfold yielded
  rw [hj]
  have:((some oj).bind (·.dst)).bind (a.tmps[·]?)=some (.bool b):=by
   show (oj.dst).bind (a.tmps[·]?)=_
   rw [hd];exact get_of_eval h
  rw [this]
 unfold Region.wanted
 rw [hg]
 show (yielded ops a.tmps j == some want)=_
 rw [hy]
 cases b<;>cases want<;>rfl
section
variable {P:Program} {ops:Array Oper} {Q:Exit->Act->World->Prop} {id:Nat} {a0:Act} {w0:World}
def Does (P:Program) (ops:Array Oper) (Q:Exit->Act->World->Prop) (p:Value->World->Prop) (o:Oper) (a:Act) (w:World):Prop :=
 (Region.wanted o (yielded ops a.tmps)=true/\o.wp P a w (fun a' w'=>∃v,a'=a.put o.dst v/\Below w.heap.size w w'/\p v w') Q)\/(Region.wanted o (yielded ops a.tmps)=false/\p undef w)
theorem Does.go {p:Value->World->Prop} {o:Oper} {a:Act} {w:World} (hg:o.guard=none) (h:o.wp P a w (fun a' w'=>∃v,a'=a.put o.dst v/\Below w.heap.size w w'/\p v w') Q):Does P ops Q p o a w:=.inl ⟨by simp [Region.wanted,hg],h⟩
theorem Does.wanted {p:Value->World->Prop} {o oj:Oper} {a:Act} {w:World} {j k:Nat} {b:Bool} (hg:o.guard=some (j,b)) (hj:ops[j]?=some oj) (hd:oj.dst=some k) (hb:a.eval (.tmp k)=.bool b) (h:o.wp P a w (fun a' w'=>∃v,a'=a.put o.dst v/\Below w.heap.size w w'/\p v w') Q):Does P ops Q p o a w :=
 .inl ⟨by rw [wants hg hj hd hb];cases b<;>rfl,h⟩
theorem Does.skip {p:Value->World->Prop} {o oj:Oper} {a:Act} {w:World} {j k:Nat} {b:Bool} (hg:o.guard=some (j,b)) (hj:ops[j]?=some oj) (hd:oj.dst=some k) (hb:a.eval (.tmp k)=.bool (!b)) (h:p undef w):Does P ops Q p o a w :=
 .inr ⟨by rw [wants hg hj hd hb];cases b<;>rfl,h⟩
theorem Does.op {p:Value->World->Prop} {o:Oper} {a:Act} {w:World} {K:Act->World->Prop} (h:Does P ops Q p o a w) (hK:∀v w',Below w.heap.size w w'->p v w'->K (a.put o.dst v) w') :
  if Region.wanted o (yielded ops a.tmps) then o.wp P a w K Q\/(o.asks P a w/\LetsOut Q) else K (a.put o.dst undef) w:=by
 rcases h with ⟨hw,h⟩|⟨hw,h⟩
 ·rw [if_pos hw]
  exact .inl (Oper.wp_mono (fun a' w' ⟨v,ha,hb,hp⟩=>by subst ha;exact hK v w' hb hp) h)
 ·rw [if_neg (by rw [hw];simp)]
  exact hK undef w (Below.refl _ _) h
theorem wp_region_all (n:Nat) (dst:Nat->Nat) (G:Nat->Value->World->Prop) (hm:P.follows .mixedOrders=true) (hT:lowOk ops n=true)
  (hinj:∀i j,i<n->j<n->dst i=dst j->i=j)
  (hdst:∀i,i<n->∃o,ops[i]?=some o/\o.dst=some (dst i)/\dst i<a0.tmps.size)
  (hstab:∀i v w w',i<n->G i v w->Below w.heap.size w w'->G i v w')
  (hstep:∀i o a w,i<n->ops[i]?=some o->Fr a0 dst n a->Below w0.heap.size w0 w->(∀j ∈ deps o,G j (a.eval (.tmp (dst j))) w)->Does P ops Q (G i) o a w)
  (hend:∀a w,Fr a0 dst n a->Below w0.heap.size w0 w->(∀i,i<n->G i (a.eval (.tmp (dst i))) w)->Q .normal a w) :
  (Code.region id ops true).wp P Q a0 w0:=by
 unfold lowOk at hT
 rw [Bool.and_eq_true,decide_eq_true_eq,List.all_eq_true] at hT
 obtain ⟨hn,hT⟩:=hT
 have hlow:∀i,i<ops.size->∀j ∈ depsAt ops i,j<i:=fun i hi j hj=>of_decide_eq_true ((List.all_eq_true.1 (hT i (List.mem_range.2 hi))) j hj)
 refine wp_region_inv (fun L a w=>L.size=ops.size/\Fr a0 dst n a/\Below w0.heap.size w0 w/\∀i,i<n->L.getD i false=true->G i (a.eval (.tmp (dst i))) w) hm ?_ ?_ ?_
 ·rintro L i a w hi ⟨hsz,hF,hB,hG⟩
  obtain ⟨hLi,o,ho,hd⟩:=ready_deps hi
  obtain ⟨hiL,hLf⟩:=getD_false hLi
  have hin:i<n:=by omega
  obtain ⟨o',ho',hod,hos⟩:=hdst i hin
  have:o'=o:=by rw [ho] at ho';exact (Option.some.inj ho').symm
  subst this
  have hs:=hstep i o' a w hin ho hF hB (fun j hj=>hG j (by have:=hlow i (by omega) j (by rw [depsAt_some ho];exact hj);omega) (hd j hj))
  unfold wpOp
  rw [ho]
  refine hs.op fun v w' hBw hGv=>?_
  have hos':dst i<a.tmps.size:=by rw [hF.size];exact hos
  refine ⟨by rw [Array.size_setIfInBounds,hsz],by rw [hod];exact hF.put hin v,hB.trans (hBw.mono hB.size),fun j hj hLj=>?_⟩
  rw [hod]
  by_cases he:j=i
  ·subst he;rw [put_eval_same v hos'];exact hGv
  ·rw [getD_set L i _ hiL,if_neg he] at hLj
   rw [put_eval_ne v (fun e=>he (hinj i j hin hj e).symm)]
   exact hstab j _ w w' hj (hG j hj hLj) hBw
 ·rintro L a w hr ⟨hsz,hF,hB,hG⟩
  refine hend a w hF hB fun i hi=>hG i hi ?_
  have key:∀k,k<ops.size->L.getD k false=true:=by
   intro k
   induction k using Nat.strongRecOn with
   | _ k ih =>
    intro hk
    cases hL:L.getD k false with
    | true=>rfl
    | false =>
     obtain ⟨o,ho⟩:∃o,ops[k]?=some o:=⟨_,Array.getElem?_eq_getElem hk⟩
     have hm:k ∈ Region.ready .any ops L:=by
      refine ready_of ho ?_ fun j hj=>?_
      ·have:k<L.size:=by omega
       simp only [Array.getD,this] at hL ⊢
       exact hL
      ·have hj':j ∈ depsAt ops k:=by rw [depsAt_some ho];exact hj
       have:=hlow k hk j hj'
       exact ih j this (by omega)
     rw [hr] at hm
     cases hm
  exact key i (by omega)
 ·have hf:∀k,(Array.replicate ops.size false).getD k false=false:=fun k=>by
   simp [Array.getD]
  refine ⟨by simp,⟨rfl,rfl,fun _ _=>rfl⟩,⟨rfl,rfl,rfl,Nat.le_refl _,fun _ _=>rfl⟩,fun i _ hL=>?_⟩
  rw [hf] at hL;cases hL
end
end Reg
namespace Reg
section
variable {P:Program} {ops:Array Oper} {Q:Exit->Act->World->Prop} {id:Nat} {a0:Act} {w0:World}
def envM (C:List Nat) (lo:Nat) (a:Act) (j:Nat):Value:=a.eval (.tmp (lo+C.getD j 0))
structure LowM (a0:Act) (lo N:Nat) (a:Act):Prop where
 defers:a.defers=a0.defers
 size:a.tmps.size=a0.tmps.size
 rest:∀k,k<lo\/lo+N<=k->a.tmps[k]?=a0.tmps[k]?
theorem LowM.eval {lo N:Nat} {a:Act} (h:LowM a0 lo N a) (k:Nat) (hk:k<lo\/lo+N<=k):a.eval (.tmp k)=a0.eval (.tmp k):=by
 show a.tmps.getD k undef=a0.tmps.getD k undef
 rw [Array.getD_eq_getD_getElem?,Array.getD_eq_getD_getElem?,h.rest k hk]
theorem LowM.put {lo N i:Nat} {a:Act} (h:LowM a0 lo N a) (hi:i<N) (v:Value):LowM a0 lo N (a.put (some (lo+i)) v):=by
 refine ⟨h.defers,?_,fun k hk=>?_⟩
 ·show (a.tmps.setIfInBounds (lo+i) v).size=_
  rw [Array.size_setIfInBounds,h.size]
 ·show (a.tmps.setIfInBounds (lo+i) v)[k]?=_
  rw [Array.getElem?_setIfInBounds_ne (by omega),h.rest k hk]
theorem LowM.fr {lo N:Nat} {a:Act} (h:LowM a0 lo N a):Fr a0 (fun i=>lo+i) N a :=
 ⟨h.defers,h.size,fun k hk=>h.rest k (by
  rcases Nat.lt_or_ge k lo with h1|h1
  ·exact .inl h1
  ·rcases Nat.lt_or_ge k (lo+N) with h2|h2
   ·exact absurd (show lo+(k-lo)=k by omega) (hk (k-lo) (by omega))
   ·exact .inr h2)⟩
def CW (P:Program) (ops:Array Oper) (Q:Exit->Act->World->Prop) (a0:Act) (lo M:Nat) (vals:Nat->Value) (C:List Nat) (S:World->Prop):List Nat->Nat->(Nat->Value)->World->Prop
 | [],_,f,w=>∀a,LowM a0 lo M a->(∀j,j+1<C.length->envM C lo a j=f j)->Q .normal a w
 | i :: r,k,f,w=>∀o a,ops[i]?=some o->LowM a0 lo M a->S w->(∀j,j<k->envM C lo a j=f j)->(∀j ∈ deps o,C.contains j=false->a.tmps[j+lo]?.getD undef=vals j) ->
   o.wp P a w (fun a' w'=>∃v,a'=a.put o.dst v/\(r≠[]->S w'/\o.dst=some (lo+i))/\CW P ops Q a0 lo M vals C S r (k+1) (fun j=>if j=k then v else f j) w') Q
theorem CW.on {lo M:Nat} {vals:Nat->Value} {C:List Nat} {S:World->Prop}:∀(l:List Nat) (k:Nat) (f g:Nat->Value) (w:World),C.length<=k+l.length->(∀j,j<k->f j=g j)->CW P ops Q a0 lo M vals C S l k f w->CW P ops Q a0 lo M vals C S l k g w
 | [],k,f,g,w,hl,hfg,h=>fun a hL he=>h a hL fun j hj=>(he j hj).trans (hfg j (by simp at hl;omega)).symm
 | i :: r,k,f,g,w,hl,hfg,h=>fun o a ho hL hS he hd=>by
  refine Oper.wp_mono ?_ (h o a ho hL hS (fun j hj=>(he j hj).trans (hfg j hj).symm) hd)
  rintro a' w' ⟨v,h1,h2,h3⟩
  refine ⟨v,h1,h2,CW.on r (k+1) _ _ w' (by simp at hl ⊢;omega) (fun j hj=>?_) h3⟩
  show (if j=k then v else f j)=if j=k then v else g j
  split
  ·rfl
  ·exact hfg j (by omega)
end
end Reg
end Go.Proofs.Ytkflfohoinbenaa
namespace Go.Proofs.Ytkflfohoinbenaa
open Go.RowKit Lx Pz Rep
set_option linter.unusedVariables false
set_option linter.unusedVariables false
namespace Pz
end Pz
end Go.Proofs.Ytkflfohoinbenaa
namespace Go.Proofs.Ytkflfohoinbenaa
open Go.RowKit Rep
set_option linter.unusedVariables false
namespace Reg
def live (ops:Array Oper) (need:List Nat) (i k:Nat):Bool:=need.contains i || (List.range ops.size).any (fun j=>decide (j≠k) && (depsAt ops j).contains i && !(clos ops [k] k).contains j)
def noneOk (ops:Array Oper) (n:Nat) (dst:Nat->Nat) (N:List Nat) (size:Nat):Bool :=
 (List.range n).all fun i=>match ops[i]? with
  | some o=>o.guard.isNone && decide (dst i<size) && (if N.contains i then decide (o.dst=none) else decide (o.dst=some (dst i)))
  | none=>false
def injOk (n:Nat) (dst:Nat->Nat):Bool:=(List.range n).all fun i=>(List.range n).all fun j=>decide (dst i=dst j->i=j)
section
variable {P:Program} {ops:Array Oper} {Q:Exit->Act->World->Prop} {id:Nat} {a0:Act} {w0:World}
theorem wp_region_effy {Z:Type} (z0:Z) (n size:Nat) (dst:Nat->Nat) (N need:List Nat) (T:Nat->Z->Z->World->World->Prop) (K:Z->World->Prop) (R:Z->Nat->World->Prop) (G:Z->Nat->Value->World->Prop) (hm:P.follows .mixedOrders=true) (hT:lowOk ops n=true)
  (hij:injOk n dst=true) (hno:noneOk ops n dst N size=true) (hs0:a0.tmps.size=size) (hN:∀i,N.contains i=true->∀z v v' w,G z i v w->G z i v' w)
  (hstab:∀i k v z z' w w',i<n->k<n->i≠k->(clos ops [i] i).contains k=false->live ops need i k=true->K z w->G z i v w->T k z z' w w'->G z' i v w')
  (hres:∀i k z z' w w',i<n->k<n->i≠k->(clos ops [k] k).contains i=false->K z w->R z i w->T k z z' w w'->R z' i w')
  (hK:∀k z z' w w',k<n->K z w->T k z z' w w'->K z' w')
  (hstep:∀i o a z w,i<n->ops[i]?=some o->Fr a0 dst n a->K z w->R z i w->(∀j ∈ deps o,G z j (a.eval (.tmp (dst j))) w)->o.wp P a w (fun a' w'=>∃v z',a'=a.put o.dst v/\T i z z' w w'/\G z' i v w') Q)
  (hend:∀a z w,Fr a0 dst n a->K z w->(∀i ∈ need,i<n->G z i (a.eval (.tmp (dst i))) w)->Q .normal a w)
  (hK0:K z0 { w0 with drawn:=w0.drawn+1 }) (hR0:∀i,i<n->R z0 i { w0 with drawn:=w0.drawn+1 }) :
  (Code.region id ops true).wp P Q a0 w0:=by
 have hinj:∀i j,i<n->j<n->dst i=dst j->i=j:=fun i j hi hj=>by
  unfold injOk at hij
  have:=(List.all_eq_true.1 ((List.all_eq_true.1 hij) i (List.mem_range.2 hi))) j (List.mem_range.2 hj)
  exact of_decide_eq_true this
 have hdst:∀i o,i<n->ops[i]?=some o->o.guard=none/\dst i<size/\(o.dst=some (dst i)\/(o.dst=none/\N.contains i=true)):=fun i o hi ho=>by
  unfold noneOk at hno
  have:=(List.all_eq_true.1 hno) i (List.mem_range.2 hi)
  rw [ho] at this
  simp only [Bool.and_eq_true,decide_eq_true_eq,Option.isNone_iff_eq_none] at this
  refine ⟨this.1.1,this.1.2,?_⟩
  have h2:=this.2
  split at h2
  ·rename_i hc;exact .inr ⟨of_decide_eq_true h2,hc⟩
  ·exact .inl (of_decide_eq_true h2)
 unfold lowOk at hT
 rw [Bool.and_eq_true,decide_eq_true_eq,List.all_eq_true] at hT
 obtain ⟨hn,hT⟩:=hT
 have hlow:∀i,i<ops.size->∀j ∈ depsAt ops i,j<i:=fun i hi j hj=>of_decide_eq_true ((List.all_eq_true.1 (hT i (List.mem_range.2 hi))) j hj)
 refine wp_region_inv (fun L a w=>L.size=ops.size/\Closed ops L/\Fr a0 dst n a/\∃z,K z w/\(∀i,i<n->L.getD i false=false->R z i w)/\∀i,i<n->L.getD i false=true->(i ∈ need\/∃j,j<n/\L.getD j false=false/\i ∈ depsAt ops j)->G z i (a.eval (.tmp (dst i))) w) hm ?_ ?_ ?_
 ·rintro L i a w hi ⟨hsz,hc,hF,z,hB,hR,hG⟩
  obtain ⟨hLi,o,ho,hd⟩:=ready_deps hi
  obtain ⟨hiL,hLf⟩:=getD_false hLi
  have hin:i<n:=by omega
  have hd':∀j ∈ depsAt ops i,L.getD j false=true:=by rw [depsAt_some ho];exact hd
  obtain ⟨hog,hos,hod⟩:=hdst i o hin ho
  have hs:=hstep i o a z w hin ho hF hB (hR i hin hLf) (fun j hj=>by
   have hj':j ∈ depsAt ops i:=by rw [depsAt_some ho];exact hj
   have:=hlow i (by omega) j hj'
   exact hG j (by omega) (hd j hj) (.inr ⟨i,hin,hLf,hj'⟩))
  unfold wpOp
  rw [ho]
  show ite _ _ _
  rw [if_pos (by simp [Region.wanted,hog])]
  left
  refine Oper.wp_mono ?_ hs
  rintro a' w' ⟨v,z',rfl,hTi,hGv⟩
  have hos':dst i<a.tmps.size:=by rw [hF.size,hs0];exact hos
  refine ⟨by rw [Array.size_setIfInBounds,hsz],?_,?_,z',hK i z z' w w' hin hB hTi,fun j hj hLj=>?_,fun j hj hLj hw=>?_⟩
  ·intro m hm' j hj
   rw [getD_set L i _ hiL] at hm' ⊢
   split
   ·rfl
   ·by_cases he:m=i
    ·subst he;exact hd' j hj
    ·rw [if_neg he] at hm';exact hc m hm' j hj
  ·rcases hod with h|h
   ·rw [h];exact hF.put hin v
   ·rw [h.1];exact hF
  ·have hne:j≠i:=fun e=>by subst e;rw [getD_set L j _ hiL,if_pos rfl] at hLj;cases hLj
   rw [getD_set L i _ hiL,if_neg hne] at hLj
   refine hres j i z z' w w' hj hin hne ?_ hB (hR j hj hLj) hTi
   cases hcj:(clos ops [i] i).contains j with
   | false=>rfl
   | true =>
    rcases clos_mem hc hd' i [i] (fun q hq=>.inl (List.mem_singleton.1 hq)) j (by simpa using hcj) with h8|h8
    ·exact absurd h8 hne
    ·rw [h8] at hLj;cases hLj
  ·by_cases he:j=i
   ·subst he
    rcases hod with h|h
    ·rw [h,put_eval_same v hos'];exact hGv
    ·exact hN j h.2 _ _ _ _ hGv
   ·rw [getD_set L i _ hiL,if_neg he] at hLj
    have hev:(a.put o.dst v).eval (.tmp (dst j))=a.eval (.tmp (dst j)):=by
     rcases hod with h|h
     ·rw [h];exact put_eval_ne v (fun e=>he (hinj i j hin hj e).symm)
     ·rw [h.1];rfl
    rw [hev]
    have hw':j ∈ need\/∃m,m<n/\L.getD m false=false/\j ∈ depsAt ops m:=by
     rcases hw with h|⟨m,hm1,hm2,hm3⟩
     ·exact .inl h
     ·refine .inr ⟨m,hm1,?_,hm3⟩
      rw [getD_set L i _ hiL] at hm2
      split at hm2
      ·cases hm2
      ·exact hm2
    refine hstab j i _ z z' w w' hj hin he ?_ ?_ hB (hG j hj hLj hw') hTi
    ·cases hcj:(clos ops [j] j).contains i with
     | false=>rfl
     | true =>
      rcases clos_mem hc (fun m hm=>hc j hLj m hm) j [j] (fun q hq=>.inl (List.mem_singleton.1 hq)) i (by simpa using hcj) with h8|h8
      ·exact absurd h8.symm he
      ·rw [h8] at hLf;cases hLf
    ·unfold live
     rcases hw with h|⟨m,hm1,hm2,hm3⟩
     ·rw [Bool.or_eq_true];left;simpa using h
     ·rw [Bool.or_eq_true];right
      refine List.any_eq_true.2 ⟨m,List.mem_range.2 (by omega),?_⟩
      rw [getD_set L i _ hiL] at hm2
      split at hm2
      ·cases hm2
      ·rename_i hmi
       simp only [Bool.and_eq_true,decide_eq_true_eq,Bool.not_eq_true']
       refine ⟨⟨hmi,by simpa using hm3⟩,?_⟩
       cases hcm:(clos ops [i] i).contains m with
       | false=>rfl
       | true =>
        rcases clos_mem hc hd' i [i] (fun q hq=>.inl (List.mem_singleton.1 hq)) m (by simpa using hcm) with h8|h8
        ·exact absurd h8 hmi
        ·rw [h8] at hm2;cases hm2
 ·rintro L a w hr ⟨hsz,hc,hF,z,hB,hR,hG⟩
  refine hend a z w hF hB fun i hi hin=>hG i hin ?_ (.inl hi)
  have key:∀k,k<ops.size->L.getD k false=true:=by
   intro k
   induction k using Nat.strongRecOn with
   | _ k ih =>
    intro hk
    cases hL:L.getD k false with
    | true=>rfl
    | false =>
     obtain ⟨o,ho⟩:∃o,ops[k]?=some o:=⟨_,Array.getElem?_eq_getElem hk⟩
     have hm:k ∈ Region.ready .any ops L:=by
      refine ready_of ho ?_ fun j hj=>?_
      ·have:k<L.size:=by omega
       simp only [Array.getD,this] at hL ⊢
       exact hL
      ·have hj':j ∈ depsAt ops k:=by rw [depsAt_some ho];exact hj
       have:=hlow k hk j hj'
       exact ih j this (by omega)
     rw [hr] at hm
     cases hm
  exact key i (by omega)
 ·have hf:∀k,(Array.replicate ops.size false).getD k false=false:=fun k=>by simp [Array.getD]
  refine ⟨by simp,fun i hi=>?_,⟨rfl,rfl,fun _ _=>rfl⟩,z0,hK0,fun i hi _=>hR0 i hi,fun i _ hL=>?_⟩
  ·rw [hf] at hi;cases hi
  ·rw [hf] at hL;cases hL
theorem wp_region_effz (n size:Nat) (dst:Nat->Nat) (N need:List Nat) (T:Nat->World->World->Prop) (K:World->Prop) (R:Nat->World->Prop) (G:Nat->Value->World->Prop) (hm:P.follows .mixedOrders=true) (hT:lowOk ops n=true)
  (hij:injOk n dst=true) (hno:noneOk ops n dst N size=true) (hs0:a0.tmps.size=size) (hN:∀i,N.contains i=true->∀v v' w,G i v w->G i v' w)
  (hstab:∀i k v w w',i<n->k<n->i≠k->(clos ops [i] i).contains k=false->live ops need i k=true->K w->G i v w->T k w w'->G i v w')
  (hres:∀i k w w',i<n->k<n->i≠k->(clos ops [k] k).contains i=false->K w->R i w->T k w w'->R i w')
  (hK:∀k w w',k<n->K w->T k w w'->K w')
  (hstep:∀i o a w,i<n->ops[i]?=some o->Fr a0 dst n a->K w->R i w->(∀j ∈ deps o,G j (a.eval (.tmp (dst j))) w)->o.wp P a w (fun a' w'=>∃v,a'=a.put o.dst v/\T i w w'/\G i v w') Q)
  (hend:∀a w,Fr a0 dst n a->K w->(∀i ∈ need,i<n->G i (a.eval (.tmp (dst i))) w)->Q .normal a w)
  (hK0:K { w0 with drawn:=w0.drawn+1 }) (hR0:∀i,i<n->R i { w0 with drawn:=w0.drawn+1 }) :
  (Code.region id ops true).wp P Q a0 w0:=by
 refine wp_region_effy () n size dst N need (fun k _ _=>T k) (fun _=>K) (fun _=>R) (fun _=>G) hm hT hij hno hs0 (fun i hi _=>hN i hi) (fun i k v _ _=>hstab i k v) (fun i k _ _=>hres i k) (fun k _ _=>hK k) (fun i o a _ w hi ho hF hB hR hd=>?_) (fun a _=>hend a) hK0 hR0
 refine Oper.wp_mono ?_ (hstep i o a w hi ho hF hB hR hd)
 rintro a' w' ⟨v,h1,h2,h3⟩
 exact ⟨v,(),h1,h2,h3⟩
end
end Reg
end Go.Proofs.Ytkflfohoinbenaa
namespace Go.Proofs.Ytkflfohoinbenaa
open Go.RowKit Lx Pz Rep
set_option linter.unusedVariables false
namespace Pz
def Stb (N:List Nat) (p:Nat) (F:World->Prop) (w:World):Prop:=∀w',Agr N p w w'->F w'
theorem Stb.but {N:List Nat} {p:Nat} {F:World->Prop} {w w':World} (h:Stb N p F w) (hb:But p w w'):Stb N p F w':=fun u hu=>h u fun k hk hp hn=>(hu k (Nat.lt_of_lt_of_le hk hb.size) hp hn).trans (hb.block k hk hp)
theorem Stb.imp {N:List Nat} {p:Nat} {F G:World->Prop} {w:World} (h:Stb N p F w) (hfg:∀w',F w'->G w'):Stb N p G w:=fun u hu=>hfg u (h u hu)
def sqT (PP:World->Prop) (p:Nat) (k:Nat) (w w':World):Prop:=if k=2 then But p w w'/\PP w' else if k=9 then True else Below w.heap.size w w'
theorem sqT.but {PP:World->Prop} {p k:Nat} {w w':World} (h:sqT PP p k w w') (hk:k≠9):But p w w':=by
 unfold sqT at h
 by_cases h2:k=2
 ·rw [if_pos h2] at h;exact h.1
 ·rw [if_neg h2,if_neg hk] at h;exact But.of p h
theorem sqT.mk {PP:World->Prop} {p k:Nat} {w w':World} (h2:k≠2) (hb:Below w.heap.size w w'):sqT PP p k w w':=by
 unfold sqT;rw [if_neg h2]
 split
 ·trivial
 ·exact hb
end Pz
namespace Pz
end Pz
namespace Pz
theorem Stb.agr {N:List Nat} {p:Nat} {F:World->Prop} {u u':World} (h:Stb N p F u) (ha:Agr N p u u') (hs:u.heap.size<=u'.heap.size):Stb N p F u':=fun w' hw=>h w' fun k hk hp hn=>(hw k (Nat.lt_of_lt_of_le hk hs) hp hn).trans (ha k hk hp hn)
theorem Stb.less {N N':List Nat} {p:Nat} {F:World->Prop} {u:World} (h:Stb N p F u) (hs:∀k ∈ N',k ∈ N):Stb N' p F u:=fun w' hw=>h w' (hw.more hs)
def OwR (V:Value->Value->World->Prop) (B:Nat) (e:TypeId) (sz:Nat) (N:List Nat) (p:Nat) (u:World) (v:Value) (ts:List Value):Prop :=
 ∃xs,u.ownsRow B e sz v ts.length xs/\(∀k,v.ownBlock=some k->k ∈ N)/\∀k t,ts[k]?=some t->∃cs:Array Value,cs.size=sz/\Stb N p (V t (.agg cs)) u/\∀j c,cs[j]?=some c->xs[k*sz+j]?=some c
section
variable {V:Value->Value->World->Prop} {B:Nat} {e:TypeId} {sz:Nat} {N:List Nat} {p:Nat} {u u':World} {v v':Value} {ts:List Value} {t:Value}
theorem OwR.nil (V:Value->Value->World->Prop) (B:Nat) (e:TypeId) (sz:Nat) (N:List Nat) (p:Nat) (u:World):OwR V B e sz N p u (.slice none 0 0) []:=⟨[],⟨by simp,.inl ⟨rfl,rfl⟩⟩,fun k h=>(by cases h),fun k t h=>(by simp at h)⟩
theorem OwR.sl (h:OwR V B e sz N p u v ts):∃o c,v=.slice o ts.length c:=by
 obtain ⟨xs,h1,_⟩:=h;exact own_sl h1
theorem OwR.kept (h:OwR V B e sz N p u v ts) (ha:Agr N p u u') (hs:u.heap.size<=u'.heap.size) (ho:∀k,v.ownBlock=some k->u'.heap[k]?=u.heap[k]?):OwR V B e sz N p u' v ts:=by
 obtain ⟨xs,⟨hl,h1⟩,h2,h3⟩:=h
 refine ⟨xs,⟨hl,?_⟩,h2,fun k t hk=>?_⟩
 ·rcases h1 with h1|⟨g,cap,cur,rfl,hB,hg,hr⟩
  ·exact .inl h1
  ·exact .inr ⟨g,cap,cur,rfl,hB,by rw [ho g rfl];exact hg,hr⟩
 ·obtain ⟨cs,hc,hs',hj⟩:=h3 k t hk
  exact ⟨cs,hc,hs'.agr ha hs,hj⟩
theorem OwR.but (h:OwR V B e sz N p u v ts) (hb:But p u u') (hp:p<B):OwR V B e sz N p u' v ts :=
 h.kept (fun k hk hp _=>hb.block k hk hp) hb.size fun k hk=>by
  obtain ⟨xs,h1,_⟩:=h
  have:=h1.lt k hk
  exact hb.block k this.2 (by omega)
theorem OwR.same (h:OwR V B e sz N p u v ts) {N':List Nat} (hs:∀k,k ∈ N'↔k ∈ N):OwR V B e sz N' p u v ts:=by
 obtain ⟨xs,h1,h2,h3⟩:=h
 refine ⟨xs,h1,fun k hk=>(hs k).2 (h2 k hk),fun k t hk=>?_⟩
 obtain ⟨cs,hc,hst,hj⟩:=h3 k t hk
 exact ⟨cs,hc,hst.less fun k hk=>(hs k).1 hk,hj⟩
theorem OwR.app {xs:List Value} {cs:Array Value} (hown:u.ownsRow B e sz v ts.length xs) (hvN:∀k,v.ownBlock=some k->k ∈ N) (hx:∀k t,ts[k]?=some t->∃cs:Array Value,cs.size=sz/\Stb N p (V t (.agg cs)) u/\∀j c,cs[j]?=some c->xs[k*sz+j]?=some c)
  (hown':u'.ownsRow B e sz v' (ts.length+1) (xs++cs.toList)) (hg:u.grownBy u' v.ownBlock) (hv:v'.ownBlock=v.ownBlock\/v'.ownBlock=some u.heap.size) (hc:cs.size=sz) (ht:Stb N p (V t (.agg cs)) u):OwR V B e sz (v'.ownBlock.toList++N) p u' v' (ts++[t]):=by
 have hst:∀(F:World->Prop),Stb N p F u->Stb (v'.ownBlock.toList++N) p F u':=fun F hF w' hw=>hF w' fun k hk hp hn=>(hw k (Nat.lt_of_lt_of_le hk hg.size) hp fun hm=>by
  rcases List.mem_append.1 hm with h1|h1
  ·rcases hv with h|h
   ·rw [h] at h1
    cases hvo:v.ownBlock with
    | none=>rw [hvo] at h1;cases h1
    | some g =>
     rw [hvo] at h1
     have:k=g:=by simpa using h1
     exact hn (by rw [this];exact hvN g hvo)
   ·rw [h] at h1
    have:k=u.heap.size:=by simpa using h1
    omega
  ·exact hn h1).trans (hg.block k hk fun h=>hn (hvN k h.symm))
 refine ⟨xs++cs.toList,by simpa using hown',fun k hk=>by rw [hk];simp,fun k s hk=>?_⟩
 by_cases hlt:k<ts.length
 ·rw [List.getElem?_append_left hlt] at hk
  obtain ⟨ds,hd,hq,hj⟩:=hx k s hk
  refine ⟨ds,hd,hst _ hq,fun j c hc'=>?_⟩
  have:=hj j c hc'
  rw [List.getElem?_append_left (List.getElem?_eq_some_iff.1 this).1];exact this
 ·rw [List.getElem?_append_right (by omega)] at hk
  have hk0:k-ts.length=0:=by
   have:=(List.getElem?_eq_some_iff.1 hk).1;simp at this;omega
  have hke:k=ts.length:=by omega
  subst hke
  simp at hk
  subst hk
  refine ⟨cs,hc,hst _ ht,fun j c hj=>?_⟩
  rw [List.getElem?_append_right (by rw [hown.1];omega),hown.1,Nat.add_sub_cancel_left]
  simpa using hj
theorem OwR.row {F:World->Nat->Nat->Nat->Value->Prop} (hF:∀w d b o t,F w d b o t->F w (d+1) b o t) (h:OwR V B e sz N p u v ts) (hn:ts.length<=9223372036854775807) (hpB:p<B) {N':List Nat} (hs:∀k ∈ N',k ∈ N) (ho:∀k,v.ownBlock=some k->k ∉ N')
  (hV:∀(w:World) (t:Value) (cs:Array Value) (b o:Nat),V t (.agg cs) w->B<=b->(∀j u,cs[j]?=some u->w.cell? ⟨b,o+j,none⟩=some u)->∃d,F w d b o t):Stb N' p (fun w=>∃d,Row sz (F w d) v ts) u:=fun w' hw=>by
 obtain ⟨xs,hown,hvN,hx⟩:=h
 rcases hown.2 with ⟨rfl,h0⟩|⟨g,cap,cur,rfl,hB,hg,hcp,hml,hcs,htk⟩
 ·exact ⟨0,hn,.inl ⟨List.eq_nil_of_length_eq_zero h0,none,0,rfl⟩⟩
 ·have hg':w'.heap[g]?=some (.cells cur e (0,0)):=by
   rw [hw g (Array.getElem?_eq_some_iff.1 hg).1 (by omega) (ho g rfl)];exact hg
  obtain ⟨d,hd⟩:=one_depth (ts:=ts) (P:=fun d k t=>F w' d g (k*sz) t) (fun d e k t hde hp=>up_le (hF w') hde hp) ts.length fun k t _ hk=>by
   obtain ⟨cs,hc,hr,hj⟩:=hx k t hk
   refine hV w' t cs g (k*sz) (hr w' (hw.more hs)) hB fun j c hc'=>put_cell hg' _ c ?_
   have:=hj j c hc'
   rw [<- htk] at this
   have h2:=(List.getElem?_eq_some_iff.1 this).1
   rw [List.getElem?_take_of_lt (by rw [List.length_take] at h2;omega)] at this
   simpa using this
  exact ⟨d,hn,.inr ⟨g,0,cap,rfl,fun k t hk=>by rw [Nat.zero_add];exact hd k t (List.getElem?_eq_some_iff.1 hk).1 hk⟩⟩
end
section
variable {w0 w u u':World} {p:Nat} {L:List Tk} {vL:Value} {en:Int} {H:List Nat} {i j:Nat} {Bs:List Bk} {Ts:List (World->Prop)}
end
end Pz
namespace Pz
section
variable (w0:World) (p:Nat) (L:List Tk) (vL:Value) (en:Int) (H:List Nat) (w:World) (q j2:Nat) (V:Value->Value->World->Prop) (T:TypeId) (sz:Nat) (eC:Value->Array Value) (t2:Value) (els:List Value) (V2:Value->Value->World->Prop) (T2:TypeId) (sz2:Nat) (v2:Value) (ts2:List Value)
end
section
variable {w0:World} {p:Nat} {L:List Tk} {vL:Value} {en:Int} {H:List Nat} {w:World} {q j2:Nat} {V:Value->Value->World->Prop} {T:TypeId} {sz:Nat} {eC:Value->Array Value} {t2:Value} {els:List Value} {V2:Value->Value->World->Prop} {T2:TypeId} {sz2:Nat} {v2:Value} {ts2:List Value} {R:Array Value} {v9:Value} {u:World}
end
end Pz
namespace Pz
section
variable (w0:World) (p:Nat) (L:List Tk) (vL:Value) (en:Int) (H:List Nat) (w:World) (q j2:Nat) (V:Value->Value->World->Prop) (T:TypeId) (sz:Nat) (eC:Value->Array Value) (t2:Value) (els:List Value) (V2:Value->Value->World->Prop) (T2:TypeId) (sz2:Nat) (v2:Value) (ts2:List Value) (ok:Bool) (zc:Array Value) (f:Nat) (rl:Nat->Nat) (cv:Nat->Value)
end
section
variable {w0:World} {p:Nat} {L:List Tk} {vL:Value} {en:Int} {H:List Nat} {w:World} {q j2:Nat} {V:Value->Value->World->Prop} {T:TypeId} {sz:Nat} {eC:Value->Array Value} {t2:Value} {els:List Value} {V2:Value->Value->World->Prop} {T2:TypeId} {sz2:Nat} {v2:Value} {ts2:List Value} {ok:Bool} {zc:Array Value} {f:Nat} {rl:Nat->Nat} {cv:Nat->Value}
end
section
variable {w0:World} {p:Nat} {L:List Tk} {vL:Value} {en:Int} {H:List Nat} {w:World} {q j2:Nat} {V:Value->Value->World->Prop} {T:TypeId} {sz:Nat} {eC:Value->Array Value} {t2:Value} {els:List Value} {V2:Value->Value->World->Prop} {T2:TypeId} {sz2:Nat} {v2:Value} {ts2:List Value} {ok:Bool} {zc:Array Value} {f:Nat} {rl:Nat->Nat} {cv:Nat->Value} {i k:Nat} {z z':Option (Array Value × Option Value)} {v:Value} {u u':World} {R:Array Value} {v9:Value}
end
end Pz
namespace Reg
end Reg
namespace Pz
section
variable {w0:World} {p:Nat} {L:List Tk} {vL:Value} {en:Int} {w:World} {q:Nat} {at0:Int} {j:Nat} {H:List Nat} {es ps:List Value} {vE vP:Value} {u:World}
end
end Pz
namespace Pz
def coO (B:Nat) (t v:Value) (w:World):Prop:=∃x ts u,t=cnV x ts/\v=.agg #[.string x,u]/\RowT B u ts w
theorem coO.val {B:Nat} {t v:Value} {w:World} (h:coO B t v w):∃x u,v=.agg #[.string x,u]/\u.oneCell'=true:=by
 obtain ⟨x,ts,u,_,h1,d,h2⟩:=h
 obtain ⟨o,c,rfl⟩:=h2.len
 exact ⟨x,_,h1,rfl⟩
theorem RowT.on {B C:Nat} {v:Value} {ts:List Value} {w w':World} (h:RowT C v ts w) (hb:Abv C w w') (hc:B<=C):RowT B v ts w':=by
 obtain ⟨d,hd⟩:=h
 exact ⟨d,hd.imp fun b o t _ ht=>TyC.lo hc d b o t (TyC.but hb d b o t ht)⟩
theorem coO.on {B C:Nat} {t v:Value} {w w':World} (h:coO B t v w) (hb:Abv B w w') (hc:C<=B):coO C t v w':=by
 obtain ⟨x,ts,u,h0,h1,h2⟩:=h;exact ⟨x,ts,u,h0,h1,h2.on hb hc⟩
def CoC (B:Nat) (w:World) (b o:Nat) (t:Value):Prop:=B<=b/\∃x ts u,t=cnV x ts/\w.cell? ⟨b,o,none⟩=some (.string x)/\w.cell? ⟨b,o+1,none⟩=some u/\RowT B u ts w
def RowC (B:Nat) (v:Value) (cs:List Value) (w:World):Prop:=Row 2 (CoC B w) v cs
theorem CoC.on {B C:Nat} {w w':World} {b o:Nat} {t:Value} (h:CoC C w b o t) (hb:Abv C w w') (hc:B<=C):CoC B w' b o t:=by
 obtain ⟨hB,x,ts,u,h0,h1,h2,h3⟩:=h
 exact ⟨Nat.le_trans hc hB,x,ts,u,h0,cell_but hb hB h1,cell_but hb hB h2,h3.on hb hc⟩
theorem RowC.on {B C:Nat} {v:Value} {ts:List Value} {w w':World} (h:RowC C v ts w) (hb:Abv C w w') (hc:B<=C):RowC B v ts w':=Row.imp h fun b o t _ ht=>ht.on hb hc
def StC (B:Nat) (w:World) (b o:Nat) (t:Value):Prop:=B<=b/\w.cell? ⟨b,o,none⟩=some t
def RowS (B:Nat) (v:Value) (ps:List ByteArray) (w:World):Prop:=Row 1 (StC B w) v (ps.map Value.string)
theorem RowS.on {B C:Nat} {v:Value} {ps:List ByteArray} {w w':World} (h:RowS C v ps w) (hb:Abv C w w') (hc:B<=C):RowS B v ps w':=Row.imp h fun b o t _ ht=>⟨Nat.le_trans hc ht.1,cell_but hb ht.1 ht.2⟩
def deO (B:Nat) (t v:Value) (w:World):Prop:=∃x ps cs a u z,t=dcV x ps cs a/\v=.agg #[.string x,u,z,.int .i64 a]/\RowS B u ps w/\RowC B z cs w
theorem deO.val {B:Nat} {t v:Value} {w:World} (h:deO B t v w):∃x u z a,v=.agg #[.string x,u,z,.int .i64 a]/\u.oneCell'=true/\z.oneCell'=true:=by
 obtain ⟨x,ps,cs,a,u,z,_,h1,h2,h3⟩:=h
 obtain ⟨o,c,rfl⟩:=Row.len h2
 obtain ⟨o',c',rfl⟩:=Row.len h3
 exact ⟨x,_,_,a,h1,rfl,rfl⟩
theorem deO.on {B C:Nat} {t v:Value} {w w':World} (h:deO B t v w) (hb:Abv B w w') (hc:C<=B):deO C t v w':=by
 obtain ⟨x,ps,cs,a,u,z,h0,h1,h2,h3⟩:=h;exact ⟨x,ps,cs,a,u,z,h0,h1,h2.on hb hc,h3.on hb hc⟩
def DeC (B:Nat) (w:World) (b o:Nat) (t:Value):Prop:=B<=b/\∃x ps cs a u z,t=dcV x ps cs a/\w.cell? ⟨b,o,none⟩=some (.string x)/\w.cell? ⟨b,o+1,none⟩=some u/\w.cell? ⟨b,o+2,none⟩=some z/\w.cell? ⟨b,o+3,none⟩=some (.int .i64 a)/\RowS B u ps w/\RowC B z cs w
def RowD (B:Nat) (v:Value) (ds:List Value) (w:World):Prop:=Row 4 (DeC B w) v ds
theorem RowD.on {B C:Nat} {v:Value} {ds:List Value} {w w':World} (h:RowD C v ds w) (hb:Abv C w w') (hc:B<=C):RowD B v ds w':=Row.imp h fun b o t _ ht=>by
 obtain ⟨hB,x,ps,cs,a,u,z,h0,h1,h2,h3,h4,h5,h6⟩:=ht
 exact ⟨Nat.le_trans hc hB,x,ps,cs,a,u,z,h0,cell_but hb hB h1,cell_but hb hB h2,cell_but hb hB h3,cell_but hb hB h4,h5.on hb hc,h6.on hb hc⟩
section
variable {w0 w u u':World} {p:Nat} {L:List Tk} {vL:Value} {en:Int} {H:List Nat} {i j:Nat} {Bs:List Bk} {Ts:List (World->Prop)}
end
section
variable {w0:World} {p:Nat} {L:List Tk} {vL:Value} {en:Int} {H:List Nat} {w:World} {q j:Nat} {V:Value->Value->World->Prop} {T TA TB:TypeId} {sz:Nat} {dC:Value->Array Value} {zA:Array Value} {t:Value} {els:List Value} {Ts:List (World->Prop)} {cs:Array Value} {v v9:Value} {u u':World} {xs:List Value}
end
end Pz
namespace Pz
end Pz
namespace Pz
end Pz
namespace Pz
end Pz
set_option linter.unusedVariables false
set_option linter.unusedVariables false
set_option linter.unusedVariables false
set_option linter.unusedVariables false
set_option linter.unusedVariables false
set_option linter.unusedVariables false
set_option linter.unusedVariables false
set_option linter.unusedVariables false
namespace Pz
end Pz
set_option linter.unusedVariables false
namespace Pz
end Pz
set_option linter.unusedVariables false
namespace Pz
def GdT (t:Tk):Prop:=(t.k=5->amg t.x keys=true)/\(t.k=6->amg t.x signs=true)
def Gd (L:List Tk):Prop:=∀t ∈ L,GdT t
section
variable {L:List Tk} {en:Int}
end
section
variable {w0:World} {p:Nat} {L:List Tk} {vL:Value} {en:Int} {E:Nat->Rd Value} {i:Nat}
-- types
end
section
variable {w0:World} {p:Nat} {L:List Tk} {vL:Value} {en:Int}
end
-- patterns
section
variable {w0:World} {p:Nat} {L:List Tk} {vL:Value} {en:Int} {E:Nat->Rd Value} {i:Nat}
end
section
variable {w0:World} {p:Nat} {L:List Tk} {vL:Value} {en:Int}
end
end Pz
namespace Pz
section
variable {w0:World} {p:Nat} {L:List Tk} {vL:Value} {en:Int} {E:Nat->Rd Value} {i:Nat}
end
section
variable {w0:World} {p:Nat} {L:List Tk} {vL:Value} {en:Int}
end
end Pz
namespace Pz
section
variable {w0:World} {p:Nat} {L:List Tk} {vL:Value} {en:Int}
end
end Pz
namespace Pz
def argsV:Value->List Value
 | .agg c=>match (c:Array Value)[4]? with
  | some (Value.agg a)=>a.toList
  | _=>[]
 | _=>[]
def patsV:Value->List Value
 | .agg c=>match (c:Array Value)[5]? with
  | some (Value.agg a)=>a.toList
  | _=>[]
 | _=>[]
theorem row_at {α:Type} {sz:Nat} {f:Nat->Nat->α->Prop} {v:Value} {l:List α} (h:Row sz f v l):∃o c,v=.slice o l.length c/\∀i x,l[i]?=some x->∃b off,o=some ⟨b,off,none⟩/\f b (off+i*sz) x:=by
 rcases h with ⟨_,⟨rfl,o,cap,rfl⟩|⟨b,off,cap,rfl,hc⟩⟩
 ·exact ⟨o,cap,rfl,fun i x hx=>(by simp at hx)⟩
 ·exact ⟨_,cap,rfl,fun i x hx=>⟨b,off,rfl,hc i x hx⟩⟩
theorem ty_elt {B d b o:Nat} {w:World} {t:Value} (h:TyC B w d b o t):∃k x n u es,t=nd k x e0 n es [] 0/\w.cell? ⟨b,o,none⟩=some (.int .i64 k)/\w.cell? ⟨b,o+1,none⟩=some (.string x)/\w.cell? ⟨b,o+2,none⟩=some (.int .i64 n)/\w.cell? ⟨b,o+3,none⟩=some u/\u.oneCell'=true/\tyO B t (.agg #[.int .i64 k,.string x,.int .i64 n,u]) w:=by
 cases d with
 | zero=>exact h.elim
 | succ d =>
  obtain ⟨hp,k,x,n,es,v,h0,h1,h2,h3,h4,h5⟩:=h
  obtain ⟨o',c',hv⟩:=h5.len
  exact ⟨k,x,n,v,es,h0,h1,h2,h3,h4,by rw [hv];rfl,d,k,x,n,es,v,h0,rfl,h5⟩
theorem RowP.on {B C:Nat} {v:Value} {ts:List Value} {w w':World} (h:RowP C v ts w) (hb:Abv C w w') (hc:B<=C):RowP B v ts w':=by
 obtain ⟨d,hd⟩:=h
 exact ⟨d,hd.imp fun b o t _ ht=>PaC.lo hc d b o t (PaC.but hb d b o t ht)⟩
theorem wrapI {i n:Nat} (h:i<n) (hn:n<=9223372036854775807):wrap64 ((i:Int)+1)=((i+1:Nat):Int):=by unfold wrap64;omega
end Pz
namespace Pz
theorem RowE.on {B C:Nat} {v:Value} {ts:List Value} {w w':World} (h:RowE C v ts w) (hb:Abv C w w') (hc:B<=C):RowE B v ts w':=by
 obtain ⟨d,hd⟩:=h
 exact ⟨d,hd.imp fun b o t _ ht=>ExC.lo hc d b o t (ExC.but hb d b o t ht)⟩
end Pz
namespace Pz
end Pz
namespace Pz
end Pz
namespace Pz
end Pz
namespace Pz
end Pz
namespace Pz
def isN (t:Value):Prop:=∃k x y n es ps a,t=nd k x y n es ps a
def fit:Nat->Value->Prop
 | 0,t=>isN t/\argsV t = []/\patsV t = []
 | d+1,t=>isN t/\(∀x ∈ argsV t,fit d x)/\(∀x ∈ patsV t,fit d x)
theorem row_mem {α:Type} {sz:Nat} {f:Nat->Nat->α->Prop} {v:Value} {l:List α} (h:Row sz f v l) {x:α} (hx:x ∈ l):∃b o,f b o x:=by
 obtain ⟨o,c,_,hc⟩:=row_at h
 obtain ⟨i,hi⟩:=List.getElem?_of_mem hx
 obtain ⟨b,off,_,hf⟩:=hc i x hi
 exact ⟨b,_,hf⟩
theorem row_none {α:Type} {sz:Nat} {v:Value} {l:List α} (h:Row sz (fun _ _ _=>False) v l):l = []:=by
 cases l with
 | nil=>rfl
 | cons x l=>obtain ⟨_,_,hf⟩:=row_mem h (List.Mem.head _);exact False.elim hf
section
variable {p:Nat} {w:World}
theorem PaC.fit:∀(d b o:Nat) (t:Value),PaC p w (d+1) b o t->fit d t
 | 0,b,o,t,⟨hp,k,x,n,es,a,v,h0,h1,h2,h3,h4,h5,h6⟩=>by
  subst h0
  exact ⟨⟨_,_,_,_,_,_,_,rfl⟩,row_none (h6.imp fun _ _ _ _ hf=>hf),rfl⟩
 | d+1,b,o,t,⟨hp,k,x,n,es,a,v,h0,h1,h2,h3,h4,h5,h6⟩=>by
  subst h0
  refine ⟨⟨_,_,_,_,_,_,_,rfl⟩,fun y hy=>?_,fun y hy=>by cases hy⟩
  obtain ⟨b',o',hf⟩:=row_mem h6 hy
  exact PaC.fit d b' o' y hf
theorem TyC.fit:∀(d b o:Nat) (t:Value),TyC p w (d+1) b o t->fit d t
 | 0,b,o,t,⟨hp,k,x,n,es,v,h0,h1,h2,h3,h4,h6⟩=>by
  subst h0
  exact ⟨⟨_,_,_,_,_,_,_,rfl⟩,row_none (h6.imp fun _ _ _ _ hf=>hf),rfl⟩
 | d+1,b,o,t,⟨hp,k,x,n,es,v,h0,h1,h2,h3,h4,h6⟩=>by
  subst h0
  refine ⟨⟨_,_,_,_,_,_,_,rfl⟩,fun y hy=>?_,fun y hy=>by cases hy⟩
  obtain ⟨b',o',hf⟩:=row_mem h6 hy
  exact TyC.fit d b' o' y hf
theorem ExC.fit:∀(d b o:Nat) (t:Value),ExC p w (d+1) b o t->fit d t
 | 0,b,o,t,⟨hp,k,x,y,n,es,ps,a,v,u,h0,h1,h2,h3,h4,h5,h6,h7,h8,h9⟩=>by
  subst h0
  exact ⟨⟨_,_,_,_,_,_,_,rfl⟩,row_none (h8.imp fun _ _ _ _ hf=>hf),row_none (h9.imp fun _ _ _ _ hf=>hf)⟩
 | d+1,b,o,t,⟨hp,k,x,y,n,es,ps,a,v,u,h0,h1,h2,h3,h4,h5,h6,h7,h8,h9⟩=>by
  subst h0
  refine ⟨⟨_,_,_,_,_,_,_,rfl⟩,fun z hz=>?_,fun z hz=>?_⟩
  ·obtain ⟨b',o',hf⟩:=row_mem h8 hz
   exact ExC.fit d b' o' z hf
  ·obtain ⟨b',o',hf⟩:=row_mem h9 hz
   exact PaC.fit d b' o' z hf
theorem ExV.fit {d:Nat} {t v:Value} (h:ExV p d w t v):fit d t:=by
 obtain ⟨k,x,y,n,es,ps,a,u,z,rfl,_,h1,h2⟩:=h
 cases d with
 | zero=>exact ⟨⟨_,_,_,_,_,_,_,rfl⟩,row_none (h1.imp fun _ _ _ _ hf=>hf),row_none (h2.imp fun _ _ _ _ hf=>hf)⟩
 | succ d =>
  refine ⟨⟨_,_,_,_,_,_,_,rfl⟩,fun z hz=>?_,fun z hz=>?_⟩
  ·obtain ⟨b',o',hf⟩:=row_mem h1 hz
   exact ExC.fit d b' o' z hf
  ·obtain ⟨b',o',hf⟩:=row_mem h2 hz
   exact PaC.fit d b' o' z hf
theorem PaV.fit {d:Nat} {t v:Value} (h:PaV p d w t v):fit d t:=by
 obtain ⟨k,x,n,es,a,u,rfl,_,h1⟩:=h
 cases d with
 | zero=>exact ⟨⟨_,_,_,_,_,_,_,rfl⟩,row_none (h1.imp fun _ _ _ _ hf=>hf),rfl⟩
 | succ d =>
  refine ⟨⟨_,_,_,_,_,_,_,rfl⟩,fun z hz=>?_,fun z hz=>by cases hz⟩
  obtain ⟨b',o',hf⟩:=row_mem h1 hz
  exact PaC.fit d b' o' z hf
theorem TyV.fit {d:Nat} {t v:Value} (h:TyV p d w t v):fit d t:=by
 obtain ⟨k,x,n,es,u,rfl,_,h1⟩:=h
 cases d with
 | zero=>exact ⟨⟨_,_,_,_,_,_,_,rfl⟩,row_none (h1.imp fun _ _ _ _ hf=>hf),rfl⟩
 | succ d =>
  refine ⟨⟨_,_,_,_,_,_,_,rfl⟩,fun z hz=>?_,fun z hz=>by cases hz⟩
  obtain ⟨b',o',hf⟩:=row_mem h1 hz
  exact TyC.fit d b' o' z hf
end
end Pz
end Go.Proofs.Ytkflfohoinbenaa
