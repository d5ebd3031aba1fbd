/- Texts that the claim needs. -/
import Derived.Test.YtkdbgopgjbfhbaaGreatDoorQPW14
namespace Go.Proofs.YtkdbgopgjbfhbaaGreatDoor
open Go.RowKit Lx Pz bq
set_option linter.unusedVariables false
namespace Pz
section
variable (w0:World) (p:Nat) (L:List Tk) (vL:Value) (en:Int) (H:List Nat) (w:World) (q j2:Nat) (V:Value->Value->World->Prop) (T:TypeId) (sz:Nat) (eC:Value->Array Value) (t2:Value) (els:List Value) (V2:Value->Value->World->Prop) (T2:TypeId) (sz2:Nat) (v2:Value) (ts2:List Value) (ok:Bool) (zc:Array Value) (f:Nat) (rl:Nat->Nat) (cv:Nat->Value)
def bM (z:Option (Array Value × Option Value)) (i:Nat) (v:Value) (u:World):Prop:=match rl i,z with
 | 5,none=>False
 | 5,some (R,none)=>v=.agg R/\R.size=sz/\(∀c ∈ R.toList,c.oneCell'=true)/\ok=true/\PR w0 p L vL en j2 u/\gY (H++[w.heap.size,q]) p (V t2 (.agg R)) u
 | 5,some (R,some _)=>v=.agg R
 | 7,some (_,some _)=>True
 | 7,_=>∃g,v=.slice (some ⟨g,0,none⟩) 1 1/\u.heap[g]?=some (.cells zc T (0,0))/\p<g
 | 8,some (R,some v9)=>v=v9/\ok=true/\R.size=sz/\(∀c ∈ R.toList,c.oneCell'=true)/\Mid w0 p L vL en H w q j2 V T sz eC t2 els V2 T2 sz2 v2 ts2 R v9 u
 | 8,_=>False
 | 9,some (R,some v9)=>∃g c,v9=.slice (some ⟨g,0,none⟩) (els.length+1) c/\v=.pointer (some ⟨g,els.length*sz,none⟩)
 | 9,_=>False
 | 10,some (R,some v9)=>∀xs rc:List Value,rc.length=sz->u.ownsRow w.heap.size T sz v9 (els.length+1) (xs++rc)->rc=R.toList
 | 10,_=>False
 | 13,some (R,some v9)=>u.heap[q]?=some (.cells (eC v9) 27 (0,0))
 | 13,_=>False
 | _,_=>v=cv i
def cZ (k:Nat) (z z':Option (Array Value × Option Value)) (u u':World):Prop:=match rl k with
 | 5=>∃R,z=none/\z'=some (R,none)/\But p u u'/\∃j,PR w0 p L vL en j u'
 | 7=>z'=z/\Below u.heap.size u u'
 | 8=>∃R v9,z=some (R,none)/\z'=some (R,some v9)
 | 10=>∃R v9 g c,z=some (R,some v9)/\z'=z/\v9=.slice (some ⟨g,0,none⟩) (els.length+1) c/\g≠q/\R.size=sz/\u'=u.setCells g (els.length*sz) R.toList
 | 13=>∃R v9,z=some (R,some v9)/\z'=z/\v9.ownBlock≠some q/\u'=u.setCell ⟨q,f,none⟩ v9
 | _=>z'=z/\u'=u
def CV (U:World) (i0:Nat) (z:Option (Array Value × Option Value)) (i:Nat) (u:World):Prop:=(rl i=0\/rl i=5\/rl i=7\/rl i=8)->But p U u/\(∃j,PR w0 p L vL en j u)/\(rl i=5->PR w0 p L vL en i0 u/\z=none)/\∀R v9,z≠some (R,some v9)
end
def wK (r:Nat):Bool:=r == 0 || r == 1 || r == 5 || r == 7 || r == 8 || r == 9 || r == 10 || r == 13
def Pf (ops : Array Oper) (n : Nat) (rl : Nat → Nat) : Bool := (List.range n).all fun i => wK (rl i) && (List.range n).all fun k => i == k ||
  (((aj.lv ops [i] i).contains k || ((decide (rl i < 8) || (rl k != 7 && rl k != 8)) && (rl i != 10 || rl k != 10) && (rl i != 13 || rl k != 13))) &&
   ((aj.lv ops [k] k).contains i || rl i == 1 || decide (9 ≤ rl i) || (rl k != 8 && rl k != 10 && rl k != 13 && (rl i != 5 || rl k != 5))))
section
variable {w0:World} {p:Nat} {L:List Tk} {vL:Value} {en:Int} {H:List Nat} {w:World} {q j2:Nat} {V:Value->Value->World->Prop} {T:TypeId} {sz:Nat} {eC:Value->Array Value} {t2:Value} {els:List Value} {V2:Value->Value->World->Prop} {T2:TypeId} {sz2:Nat} {v2:Value} {ts2:List Value} {ok:Bool} {zc:Array Value} {f:Nat} {rl:Nat->Nat} {cv:Nat->Value}
theorem bM.on {i k:Nat} {v:Value} {z z':Option (Array Value × Option Value)} {u u':World} (nJ:wK (rl i)=true) (hset:∀v9 y,(eC y).setIfInBounds f v9=eC v9) (hq2:v2.ownBlock≠some q) (Fu:rl i<8\/(rl k≠7/\rl k≠8)) (Yb:rl i≠10\/rl k≠10) (Yc:rl i≠13\/rl k≠13)
  (hG:bM w0 p L vL en H w q j2 V T sz eC t2 els V2 T2 sz2 v2 ts2 ok zc rl cv z i v u) (hT:cZ w0 p L vL en q sz els f rl k z z' u u'):bM w0 p L vL en H w q j2 V T sz eC t2 els V2 T2 sz2 v2 ts2 ok zc rl cv z' i v u':=by
 unfold cZ at hT;split at hT
 ·obtain ⟨R,rfl,rfl,hb,_⟩:=hT;unfold bM at hG ⊢;generalize rl i=r at *;unfold wK at nJ;simp only [Bool.or_eq_true,beq_iff_eq] at nJ;rcases nJ with ((((((rfl|rfl)|rfl)|rfl)|rfl)|rfl)|rfl)|rfl
  ·exact hG
  ·exact hG
  ·exact hG.elim
  ·obtain ⟨g,h1,h2,h3⟩:=hG;exact ⟨g,h1,hb.blk h2 (by omega),h3⟩
  ·exact hG.elim
  ·exact hG.elim
  ·exact hG.elim
  ·exact hG.elim
 ·rename_i hk;obtain ⟨rfl,hb⟩:=hT;unfold bM at hG ⊢;generalize rl i=r at *;unfold wK at nJ;simp only [Bool.or_eq_true,beq_iff_eq] at nJ;rcases nJ with ((((((rfl|rfl)|rfl)|rfl)|rfl)|rfl)|rfl)|rfl
  ·exact hG
  ·exact hG
  ·match z',hG with
   | some (R,none),hG=>obtain ⟨h1,h2,h3,h4,h5,h6⟩:=hG;exact ⟨h1,h2,h3,h4,h5.on hb,h6.but (But.of p hb)⟩
   | some (R,some _),hG=>exact hG
  ·match z',hG with
   | some (R,some _),hG=>exact trivial
   | some (R,none),hG=>obtain ⟨g,h1,h2,h3⟩:=hG;exact ⟨g,h1,by rw [hb.block g (Array.getElem?_eq_some_iff.1 h2).1];exact h2,h3⟩
   | none,hG=>obtain ⟨g,h1,h2,h3⟩:=hG;exact ⟨g,h1,by rw [hb.block g (Array.getElem?_eq_some_iff.1 h2).1];exact h2,h3⟩
  ·exact absurd hk (by rcases Fu with h|h;(exact absurd h (by decide));exact h.1)
  ·exact absurd hk (by rcases Fu with h|h;(exact absurd h (by decide));exact h.1)
  ·exact absurd hk (by rcases Fu with h|h;(exact absurd h (by decide));exact h.1)
  ·exact absurd hk (by rcases Fu with h|h;(exact absurd h (by decide));exact h.1)
 ·rename_i hk;obtain ⟨R,v9,rfl,rfl⟩:=hT;unfold bM at hG ⊢;generalize rl i=r at *;unfold wK at nJ;simp only [Bool.or_eq_true,beq_iff_eq] at nJ;rcases nJ with ((((((rfl|rfl)|rfl)|rfl)|rfl)|rfl)|rfl)|rfl
  ·exact hG
  ·exact hG
  ·exact hG.1
  ·exact trivial
  ·exact hG.elim
  ·exact hG.elim
  ·exact hG.elim
  ·exact hG.elim
 ·rename_i hk;obtain ⟨R,v9,g,c,rfl,rfl,hv,fo,hR,rfl⟩:=hT;unfold bM at hG ⊢;generalize rl i=r at *;unfold wK at nJ;simp only [Bool.or_eq_true,beq_iff_eq] at nJ;rcases nJ with ((((((rfl|rfl)|rfl)|rfl)|rfl)|rfl)|rfl)|rfl
  ·exact hG
  ·exact hG
  ·exact hG
  ·exact trivial
  ·obtain ⟨h1,h2,h3,h4,h5⟩:=hG;exact ⟨h1,h2,h3,h4,h5.Yd hR hv⟩
  ·exact hG
  ·rcases Yb with h|h
   ·exact absurd rfl h
   ·exact absurd hk h
  ·show (u.setCells g _ _).heap[q]?=_;rw [wH g q (fun e=>fo e.symm)];exact hG
 ·rename_i hk;obtain ⟨R,v9,rfl,rfl,Ye,rfl⟩:=hT;unfold bM at hG ⊢;generalize rl i=r at *;unfold wK at nJ;simp only [Bool.or_eq_true,beq_iff_eq] at nJ;rcases nJ with ((((((rfl|rfl)|rfl)|rfl)|rfl)|rfl)|rfl)|rfl
  ·exact hG
  ·exact hG
  ·exact hG
  ·exact trivial
  ·obtain ⟨h1,h2,h3,h4,h5⟩:=hG;exact ⟨h1,h2,h3,h4,h5.Yf (hset v9) hq2⟩
  ·exact hG
  ·intro xs rc hl ho;refine hG xs rc hl (ho.kept (row:=some q) ⟨rfl,rfl,rfl,by simp,fun k hk hn=>(Below.heap_setCell u ⟨q,f,none⟩ v9 k (fun e=>hn (by rw [e]))).symm⟩ (.inr Ye))
  ·rcases Yc with h|h
   ·exact absurd rfl h
   ·exact absurd hk h
 ·obtain ⟨rfl,rfl⟩:=hT;exact hG
theorem CV.on {U:World} {i0 i k:Nat} {z z':Option (Array Value × Option Value)} {u u':World} (h1:rl i=1\/9<=rl i\/(rl k≠8/\rl k≠10/\rl k≠13/\(rl i≠5\/rl k≠5))) (hR:CV w0 p L vL en rl U i0 z i u) (hT:cZ w0 p L vL en q sz els f rl k z z' u u'):CV w0 p L vL en rl U i0 z' i u':=fun hi=>by
 rcases h1 with h|h|⟨h8,h10,yQ,Yg⟩
 ·rw [h] at hi;simp at hi
 ·omega
 ·obtain ⟨a1,a2,a3,a4⟩:=hR hi;unfold cZ at hT;split at hT
  ·rename_i hk;obtain ⟨R,rfl,rfl,hb,hp⟩:=hT;refine ⟨a1.trans hb,hp,fun h5=>?_,fun R v9 e=>by injection e with e;injection e with _ e;cases e⟩;rcases Yg with h|h
   ·exact absurd h5 h
   ·exact absurd hk h
  ·obtain ⟨rfl,hb⟩:=hT;obtain ⟨j,hj⟩:=a2;exact ⟨a1.trans (But.of p hb),⟨j,hj.on hb⟩,fun h5=>⟨(a3 h5).1.on hb,(a3 h5).2⟩,a4⟩
  ·rename_i hk;exact absurd hk h8
  ·rename_i hk;exact absurd hk h10
  ·rename_i hk;exact absurd hk yQ
  ·obtain ⟨rfl,rfl⟩:=hT;exact ⟨a1,a2,a3,a4⟩
theorem Jh {ops:Array Oper} {Q:Exit->Act->World->Prop} {id:Nat} {a0:Act} {U:World} (n size:Nat) (dst:Nat->Nat) (N need:List Nat) (i0:Nat) (hm:(Tryz.prog).follows .mixedOrders=true) (hT:aj.yR ops n=true) (hij:aj.Fv n dst=true) (hno:aj.Fx ops n dst N size=true) (hs0:a0.tmps.size=size) (hap:Pf ops n rl=true)
  (hN:∀i,N.contains i=true->rl i=10\/rl i=13) (hset:∀v9 y,(eC y).setIfInBounds f v9=eC v9) (hq2:v2.ownBlock≠some q) (hpr:PR w0 p L vL en i0 U)
  (hstep:∀i o a z u,i<n->ops[i]?=some o->aj.Fr a0 dst n a->CV w0 p L vL en rl U i0 z i u->(∀j ∈ aj.deps o,bM w0 p L vL en H w q j2 V T sz eC t2 els V2 T2 sz2 v2 ts2 ok zc rl cv z j (a.eval (.tmp (dst j))) u)->o.wp Tryz.prog a u (fun a' u'=>∃v z',a'=a.put o.dst v/\cZ w0 p L vL en q sz els f rl i z z' u u'/\bM w0 p L vL en H w q j2 V T sz eC t2 els V2 T2 sz2 v2 ts2 ok zc rl cv z' i v u') Q)
  (hend:∀a z u,aj.Fr a0 dst n a->(∀i ∈ need,i<n->bM w0 p L vL en H w q j2 V T sz eC t2 els V2 T2 sz2 v2 ts2 ok zc rl cv z i (a.eval (.tmp (dst i))) u)->Q .normal a u) :
  (Code.region id ops true).wp Tryz.prog Q a0 U:=by
 have Pg:∀i k,i<n->k<n->i≠k->wK (rl i)=true/\((aj.lv ops [i] i).contains k=false->(rl i<8\/(rl k≠7/\rl k≠8))/\(rl i≠10\/rl k≠10)/\(rl i≠13\/rl k≠13))/\((aj.lv ops [k] k).contains i=false->rl i=1\/9<=rl i\/(rl k≠8/\rl k≠10/\rl k≠13/\(rl i≠5\/rl k≠5))):=fun i k hi hk hne=>by
  unfold Pf at hap;have h:=(List.all_eq_true.1 hap) i (List.mem_range.2 hi);rw [Bool.and_eq_true,List.all_eq_true] at h;have h2:=h.2 k (List.mem_range.2 hk);simp only [Bool.or_eq_true,Bool.and_eq_true,beq_iff_eq,bne_iff_ne,decide_eq_true_eq] at h2;refine ⟨h.1,fun hc=>?_,fun hc=>?_⟩
  ·rcases h2 with h2|⟨h2,_⟩
   ·exact absurd h2 hne
   ·rcases h2 with h2|⟨⟨h2,h3⟩,h4⟩
    ·rw [hc] at h2;cases h2
    ·exact ⟨h2,h3,h4⟩
  ·rcases h2 with h2|⟨_,h2⟩
   ·exact absurd h2 hne
   ·rcases h2 with ((h2|h2)|h2)|h2
    ·rw [hc] at h2;cases h2
    ·exact .inl h2
    ·exact .inr (.inl h2)
    ·exact .inr (.inr ⟨h2.1.1.1,h2.1.1.2,h2.1.2,h2.2⟩)
 refine aj.CX (none:Option (Array Value × Option Value)) n size dst N need (cZ w0 p L vL en q sz els f rl) (fun _ _=>True) (fun z i u=>CV w0 p L vL en rl U i0 z i u) (bM w0 p L vL en H w q j2 V T sz eC t2 els V2 T2 sz2 v2 ts2 ok zc rl cv) hm hT hij hno hs0 ?_ ?_ ?_ (fun _ _ _ _ _ _ _ _=>trivial) ?_ ?_ trivial ?_
 ·intro i hi z v v' u h;unfold bM at h ⊢;rcases hN i hi with hr|hr
  ·rw [hr] at h ⊢
   match z,h with
   | some (R,some v9),h=>exact h
  ·rw [hr] at h ⊢
   match z,h with
   | some (R,some v9),h=>exact h
 ·intro i k v z z' u u' hi hk hne hdp _ _ hG Ji;obtain ⟨h0,h1,_⟩:=Pg i k hi hk hne;obtain ⟨a1,a2,a3⟩:=h1 hdp;exact hG.on h0 hset hq2 a1 a2 a3 Ji
 ·intro i k z z' u u' hi hk hne hdp _ hR Ji;exact hR.on ((Pg i k hi hk hne).2.2 hdp) Ji
 ·intro i o a z u hi ho hF _ hR hd;exact hstep i o a z u hi ho hF hR hd
 ·intro a z u hF _ hn;exact hend a z u hF hn
 ·intro i _ _;exact ⟨But.of p (iF U),⟨i0,hpr.on (iF U)⟩,fun _=>⟨hpr.on (iF U),rfl⟩,fun R v9 e=>by cases e⟩
end
section
variable {w0:World} {p:Nat} {L:List Tk} {vL:Value} {en:Int} {H:List Nat} {w:World} {q j2:Nat} {V:Value->Value->World->Prop} {T:TypeId} {sz:Nat} {eC:Value->Array Value} {t2:Value} {els:List Value} {V2:Value->Value->World->Prop} {T2:TypeId} {sz2:Nat} {v2:Value} {ts2:List Value} {ok:Bool} {zc:Array Value} {f:Nat} {rl:Nat->Nat} {cv:Nat->Value} {i k:Nat} {z z':Option (Array Value × Option Value)} {v:Value} {u u':World} {R:Array Value} {v9:Value}
theorem cZ.c (h:rl k=0\/rl k=1):cZ w0 p L vL en q sz els f rl k z z u u:=by
 unfold cZ;rcases h with h|h<;>rw [h]<;>exact ⟨rfl,rfl⟩
theorem cZ.nine (h:rl k=9):cZ w0 p L vL en q sz els f rl k z z u u:=by
 unfold cZ;rw [h];exact ⟨rfl,rfl⟩
theorem cZ.five (h:rl k=5) (h1:But p u u') (h2:∃j,PR w0 p L vL en j u'):cZ w0 p L vL en q sz els f rl k none (some (R,none)) u u':=by
 unfold cZ;rw [h];exact ⟨R,rfl,rfl,h1,h2⟩
theorem cZ.seven (h:rl k=7) (h1:Below u.heap.size u u'):cZ w0 p L vL en q sz els f rl k z z u u':=by
 unfold cZ;rw [h];exact ⟨rfl,h1⟩
theorem cZ.eight (h:rl k=8):cZ w0 p L vL en q sz els f rl k (some (R,none)) (some (R,some v9)) u u':=by
 unfold cZ;rw [h];exact ⟨R,v9,rfl,rfl⟩
theorem cZ.ten (h:rl k=10) {g c:Nat} (hv:v9=.slice (some ⟨g,0,none⟩) (els.length+1) c) (hg:g≠q) (hR:R.size=sz):cZ w0 p L vL en q sz els f rl k (some (R,some v9)) (some (R,some v9)) u (u.setCells g (els.length*sz) R.toList):=by
 unfold cZ;rw [h];exact ⟨R,v9,g,c,rfl,rfl,hv,hg,hR,rfl⟩
theorem cZ.yS (h:rl k=13) (hg:v9.ownBlock≠some q):cZ w0 p L vL en q sz els f rl k (some (R,some v9)) (some (R,some v9)) u (u.setCell ⟨q,f,none⟩ v9):=by
 unfold cZ;rw [h];exact ⟨R,v9,rfl,rfl,hg,rfl⟩
theorem bM.c (h:rl i=0\/rl i=1) (hv:v=cv i):bM w0 p L vL en H w q j2 V T sz eC t2 els V2 T2 sz2 v2 ts2 ok zc rl cv z i v u:=by
 unfold bM;rcases h with h|h<;>rw [h]<;>exact hv
theorem bM.iQ (hG:bM w0 p L vL en H w q j2 V T sz eC t2 els V2 T2 sz2 v2 ts2 ok zc rl cv z i v u) (h:rl i=0\/rl i=1):v=cv i:=by
 unfold bM at hG;rcases h with h|h<;>rw [h] at hG<;>exact hG
theorem bM.five (h:rl i=5) (h1:v=.agg R) (h2:R.size=sz) (h3:∀c ∈ R.toList,c.oneCell'=true) (h4:ok=true) (h5:PR w0 p L vL en j2 u) (h6:gY (H++[w.heap.size,q]) p (V t2 (.agg R)) u):bM w0 p L vL en H w q j2 V T sz eC t2 els V2 T2 sz2 v2 ts2 ok zc rl cv (some (R,none)) i v u:=by
 unfold bM;rw [h];exact ⟨h1,h2,h3,h4,h5,h6⟩
theorem bM.Jj (hG:bM w0 p L vL en H w q j2 V T sz eC t2 els V2 T2 sz2 v2 ts2 ok zc rl cv z i v u) (h:rl i=5) (hz:∀R v9,z≠some (R,some v9)):∃R,z=some (R,none)/\v=.agg R/\R.size=sz/\(∀c ∈ R.toList,c.oneCell'=true)/\ok=true/\PR w0 p L vL en j2 u/\gY (H++[w.heap.size,q]) p (V t2 (.agg R)) u:=by
 unfold bM at hG;rw [h] at hG
 match z,hG,hz with
 | some (R,none),hG,_=>exact ⟨R,rfl,hG⟩
 | some (R,some v9),_,hz=>exact absurd rfl (hz R v9)
theorem bM.Jk (hG:bM w0 p L vL en H w q j2 V T sz eC t2 els V2 T2 sz2 v2 ts2 ok zc rl cv (some (R,some v9)) i v u) (h:rl i=5):v=.agg R:=by
 unfold bM at hG;rw [h] at hG;exact hG
theorem bM.seven (h:rl i=7) {g:Nat} (h1:v=.slice (some ⟨g,0,none⟩) 1 1) (h2:u.heap[g]?=some (.cells zc T (0,0))) (h3:p<g):bM w0 p L vL en H w q j2 V T sz eC t2 els V2 T2 sz2 v2 ts2 ok zc rl cv z i v u:=by
 unfold bM;rw [h]
 match z with
 | none=>exact ⟨g,h1,h2,h3⟩
 | some (R,none)=>exact ⟨g,h1,h2,h3⟩
 | some (R,some _)=>exact trivial
theorem bM.Jl (hG:bM w0 p L vL en H w q j2 V T sz eC t2 els V2 T2 sz2 v2 ts2 ok zc rl cv z i v u) (h:rl i=7) (hz:∀R v9,z≠some (R,some v9)):∃g,v=.slice (some ⟨g,0,none⟩) 1 1/\u.heap[g]?=some (.cells zc T (0,0))/\p<g:=by
 unfold bM at hG;rw [h] at hG
 match z,hG,hz with
 | none,hG,_=>exact hG
 | some (R,none),hG,_=>exact hG
 | some (R,some v9),_,hz=>exact absurd rfl (hz R v9)
theorem bM.eight (h:rl i=8) (h1:ok=true) (h2:R.size=sz) (h3:∀c ∈ R.toList,c.oneCell'=true) (h4:Mid w0 p L vL en H w q j2 V T sz eC t2 els V2 T2 sz2 v2 ts2 R v9 u):bM w0 p L vL en H w q j2 V T sz eC t2 els V2 T2 sz2 v2 ts2 ok zc rl cv (some (R,some v9)) i v9 u:=by
 unfold bM;rw [h];exact ⟨rfl,h1,h2,h3,h4⟩
theorem bM.tO (hG:bM w0 p L vL en H w q j2 V T sz eC t2 els V2 T2 sz2 v2 ts2 ok zc rl cv z i v u) (h:rl i=8):∃R,z=some (R,some v)/\ok=true/\R.size=sz/\(∀c ∈ R.toList,c.oneCell'=true)/\Mid w0 p L vL en H w q j2 V T sz eC t2 els V2 T2 sz2 v2 ts2 R v u:=by
 unfold bM at hG;rw [h] at hG
 match z,hG with
 | some (R,some v9),hG=>obtain ⟨rfl,h1⟩:=hG;exact ⟨R,rfl,h1⟩
theorem bM.nine (h:rl i=9) {g c:Nat} (hv:v9=.slice (some ⟨g,0,none⟩) (els.length+1) c):bM w0 p L vL en H w q j2 V T sz eC t2 els V2 T2 sz2 v2 ts2 ok zc rl cv (some (R,some v9)) i (.pointer (some ⟨g,els.length*sz,none⟩)) u:=by
 unfold bM;rw [h];exact ⟨g,c,hv,rfl⟩
theorem bM.Jm (hG:bM w0 p L vL en H w q j2 V T sz eC t2 els V2 T2 sz2 v2 ts2 ok zc rl cv (some (R,some v9)) i v u) (h:rl i=9):∃g c,v9=.slice (some ⟨g,0,none⟩) (els.length+1) c/\v=.pointer (some ⟨g,els.length*sz,none⟩):=by
 unfold bM at hG;rw [h] at hG;exact hG
theorem bM.ten (h:rl i=10) (hR:R.size=sz) (hM:Mid w0 p L vL en H w q j2 V T sz eC t2 els V2 T2 sz2 v2 ts2 R v9 u) {g c:Nat} (hv:v9=.slice (some ⟨g,0,none⟩) (els.length+1) c):bM w0 p L vL en H w q j2 V T sz eC t2 els V2 T2 sz2 v2 ts2 ok zc rl cv (some (R,some v9)) i v (u.setCells g (els.length*sz) R.toList):=by
 unfold bM;rw [h];intro xs rc hl ho;obtain ⟨ys,rd,h1,h2,h3,_⟩:=hM.row;subst hv;have h4:=Ph (vs:=R.toList) h2 h3 h1 (by simpa using hR);have h5:=Yh ho h4;have h6:=ho.1;rw [List.length_append,hl,Nat.add_mul,Nat.one_mul] at h6;exact (List.append_inj h5 (by omega)).2
theorem bM.yS (h:rl i=13) (hset:∀y,(eC y).setIfInBounds f v9=eC v9) (hM:Mid w0 p L vL en H w q j2 V T sz eC t2 els V2 T2 sz2 v2 ts2 R v9 u):bM w0 p L vL en H w q j2 V T sz eC t2 els V2 T2 sz2 v2 ts2 ok zc rl cv (some (R,some v9)) i v (u.setCell ⟨q,f,none⟩ v9):=by
 unfold bM;rw [h];obtain ⟨y,hst⟩:=hM.st;show (u.setCell ⟨q,f,none⟩ v9).heap[q]?=_;rw [heap_setCell_same u q f _ _ v9 (hst.at_ (k:=1) rfl),hset]
theorem bM.fin (h8:bM w0 p L vL en H w q j2 V T sz eC t2 els V2 T2 sz2 v2 ts2 ok zc rl cv z i v9 u) (Yi:rl i=8) {i10 i13:Nat} {x y:Value} (h10:bM w0 p L vL en H w q j2 V T sz eC t2 els V2 T2 sz2 v2 ts2 ok zc rl cv z i10 x u) (Yj:rl i10=10) (yQ:bM w0 p L vL en H w q j2 V T sz eC t2 els V2 T2 sz2 v2 ts2 ok zc rl cv z i13 y u) (Yk:rl i13=13) :
  ok=true/\(∃g c,v9=.slice (some ⟨g,0,none⟩) (els.length+1) c/\w.heap.size<g/\g≠q/\v2.ownBlock≠some g)/\ST w0 p L vL en (v9.ownBlock.toList++H) w j2 [(w.heap.size,bO,27),(q,eC v9,27)] [] u/\fV V w.heap.size T sz ((v9.ownBlock.toList++H)++[w.heap.size,q]) p u v9 (els++[t2])/\fV V2 w.heap.size T2 sz2 ((v9.ownBlock.toList++H)++[w.heap.size,q]) p u v2 ts2:=by
 obtain ⟨R,rfl,hok,hR,_,hM⟩:=h8.tO Yi;unfold bM at h10 yQ;rw [Yj] at h10;rw [Yk] at yQ;exact ⟨hok,hM.own,hM.fin hR h10 yQ⟩
end
end Pz
end Go.Proofs.YtkdbgopgjbfhbaaGreatDoor
