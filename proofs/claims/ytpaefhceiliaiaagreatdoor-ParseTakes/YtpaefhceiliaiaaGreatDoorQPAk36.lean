/- Texts that the claim needs. -/
import Derived.Test.YtpaefhceiliaiaaGreatDoorQPAk34
import Derived.Test.YtpaefhceiliaiaaGreatDoorQPAk35
import Derived.Test.YtpaefhceiliaiaaGreatDoorQPAk2
import Derived.ProofKit
import Derived.OpenShut
import Derived.Lib.SmallJoins
import Derived.Test.YtpaefhceiliaiaaGreatDoorQPAk3
import Derived.Test.YtpaefhceiliaiaaGreatDoorQPAk11
namespace Go.Proofs.YtpaefhceiliaiaaGreatDoor
open Go.RowKit Lx Pz bB
set_option linter.unusedVariables false
set_option maxRecDepth 100000
set_option maxHeartbeats 8000000
namespace Pz
theorem Vm {w w':World} (h:Ints.WI w) (hb:Below w.heap.size w w'):Ints.WI w':=fun k hk=>ag hb (h k hk)
def iS (nk pk:Int) (nm:Bool) (ar:Int):List Value:=[.int .i64 nk,.int .i64 pk,.bool nm,.int .i64 ar]
def MV:List Value:=iS 0 0 false 0++iS 0 0 false 0++iS 3 0 false 0++iS 0 0 false 2++iS 1 0 false (-1)
def MW:List Value:=iS 0 0 false 0++iS 0 0 false 0++iS 1 0 false 0++iS 0 0 true 0++iS 2 0 false (-1)
def MX:List Value:=iS 0 0 false 0++iS 1 0 false 0++iS 0 0 true 0++iS 1 0 false 1++iS 0 0 false 2++iS 1 0 false 2++iS 1 1 false 2++iS 0 0 false (-2)++iS 2 0 false (-1)++iS 6 0 false 2++iS 0 0 false 1
structure GW (w:World):Prop where
 wl:WL w
 tp:TP w
 wi:Ints.WI w
 ty:∀j v,MV[j]?=some v->w.cell? ⟨5,j,none⟩=some v
 pa:∀j v,MW[j]?=some v->w.cell? ⟨3,j,none⟩=some v
 ex:∀j v,MX[j]?=some v->w.cell? ⟨0,j,none⟩=some v
theorem GW.on {w w':World} (h:GW w) (hb:Below w.heap.size w w'):GW w' :=
 ⟨h.wl.on hb,h.tp.on hb,Vm h.wi hb,fun j v hv=>ag hb (h.ty j v hv),fun j v hv=>ag hb (h.pa j v hv),fun j v hv=>ag hb (h.ex j v hv)⟩
theorem G7 (n:Int):(Ints.wr n == n)=dh n:=by
 unfold dh;by_cases h:-1073741824<=n/\n<=1073741823
 ·rw [decide_eq_true h.1,decide_eq_true h.2,beq_iff_eq.2 ((Ints.MZ n).2 h)];rfl
 ·rw [beq_eq_false_iff_ne.2 (fun e=>h ((Ints.MZ n).1 e))];rw [<- Bool.decide_and,decide_eq_false h]
theorem Vn (x:ByteArray):x.toList.isEmpty=decide (x=e0):=by
 rw [ByteArray.toList_eq];by_cases h:x=e0
 ·subst h;rfl
 ·rw [decide_eq_false h,List.isEmpty_eq_false_iff];intro e;exact h (ByteArray.ext (Array.toList_inj.1 e))
theorem Vo (k:Int) (x:ByteArray):((txt [⟨k,x,0,0⟩]).2 == 0)=iw k x 0:=by
 cases h:iw k x 0 with
 | false=>rw [M0 (l:=[⟨k,x,0,0⟩]) (by simp) (i:=0) rfl h];rfl
 | true =>
  have hg:∀t ∈ [(⟨k,x,0,0⟩:Tk)],ni t=true:=fun t ht=>by rw [List.mem_singleton.1 ht];exact h
  have hl:=M3 _ hg;rw [M4 (by simp) hg,if_neg (by simp only [List.length_singleton] at hl;omega)];rfl
end Pz
theorem AA (k:Int) (x:ByteArray) (w:World) (hG:GW w) (hx:x.size<=140737488355328):Calls Tryz.prog 83 #[.int .i64 k,.string x] w fun e w'=>e=.returned (.bool (cA k x))/\Below w.heap.size w w':=by
 by_cases h0:k=0
 ·subst h0;have HR:Hid (x.toList.isEmpty=cA 0 x):=ae (Vn x);generalize cA 0 x=R at *;clear hG;go_enter Tryz.func83,Tryz.ntmps83;go_wp2;go_ret;exact ⟨aC HR.out,Below.refl _ _⟩
 ·have q0:(k == 0)=false:=beq_eq_false_iff_ne.2 h0;by_cases h6:k=6
  ·subst h6
   have HR:Hid ((Ints.uL x != 0)=cA 6 x):=ae (by
    show _=decide (Ints.uL x≠0);by_cases h:Ints.uL x=0
    ·rw [h];rfl
    ·rw [decide_eq_true h,bne_iff_ne.2 h])
   have HC:=ae (Vp x w hG.wi);generalize cA 6 x=R at *;generalize Ints.uL x=Op at *;clear hG q0 h0;go_enter Tryz.func83,Tryz.ntmps83;go_wp2_with fail;refine Calls.mono (show Calls _ _ _ _ _ from HC.out) ?_;rintro e w1 ⟨rfl,rfl⟩;go_wp2;go_ret;exact ⟨aC HR.out,Below.refl _ _⟩
  ·have q6:(k == 6)=false:=beq_eq_false_iff_ne.2 h6;have HR:Hid (((txt [⟨k,x,0,0⟩]).2 == 0)=cA k x):=ae (by rw [Vo];unfold cA;rw [if_neg h0,if_neg h6]);have hb:=bO w (.cells #[.int .i64 k,.string x,.int .i64 0,.int .i64 0] 47)
   have hT:kG (w.alloc (.cells #[.int .i64 k,.string x,.int .i64 0,.int .i64 0] 47)) (.slice (some ⟨w.heap.size,0,none⟩) 1 1) [⟨k,x,0,0⟩]:=.inr ⟨w.heap.size,1,rfl,fun i t hi j y hj=>by
    match i,hi with
    | 0,hi =>
     injection hi with hi;subst hi;refine af (heap_alloc_new w _) _ _ ?_
     match j,hj with
     | 0,hj=>exact hj
     | 1,hj=>exact hj
     | 2,hj=>exact hj
     | 3,hj=>exact hj⟩
   have HC:=ae (Vq _ [⟨k,x,0,0⟩] _ hT (fun t ht=>by rw [List.mem_singleton.1 ht];exact ⟨hx,(show (-9223372036854775808:Int)<=0 by decide),(show (0:Int)<=9223372036854775807 by decide)⟩) (hG.wl.on hb) (hG.tp.on hb));have HB:=ae hb;generalize cA k x=R at *;generalize txt [⟨k,x,0,0⟩]=TX at *;clear hG hb hT h0 h6;go_enter Tryz.func83,Tryz.ntmps83;go_wp2_with fail;refine Calls.mono (show Calls _ _ _ _ _ from HC.out) ?_;rintro e w1 ⟨rfl,hb1⟩;have HB1:=ae (au HB.out hb1);clear hb1 HC;go_wp2;go_ret;exact ⟨aC HR.out,HB1.out⟩
theorem Vr (x:ByteArray) (w:World) (hG:GW w) (hx:x.size<=140737488355328):Calls Tryz.prog 85 #[.string x] w fun e w'=>e=.returned (.bool (cA 3 x))/\Below w.heap.size w w':=by
 have HC:=ae (AA 3 x w hG hx);generalize cA 3 x=R at *;clear hG;go_enter Tryz.func85,Tryz.ntmps85;go_wp2_with fail;refine Calls.mono (show Calls _ _ _ _ _ from HC.out) ?_;rintro e w1 ⟨rfl,hb1⟩;have HB1:=ae hb1;clear hb1 HC;go_wp2;go_ret;exact ⟨rfl,HB1.out⟩
theorem G8 (nk pk:Int) (nm:Bool) (ar:Int) (x:ByteArray) (n:Int) (m:Nat) (w:World) (hG:GW w) (hx:x.size<=140737488355328) (hn:-9223372036854775808<=n/\n<=9223372036854775807) :
  Calls Tryz.prog 88 #[.agg #[.int .i64 nk,.int .i64 pk,.bool nm,.int .i64 ar],.string x,.int .i64 n,.int .i64 (m:Int)] w fun e w'=>e=.returned (.bool (kH nk nm ar x n m))/\Below w.heap.size w w':=by
 have hb:=bO w (.cells #[.int .i64 nk,.int .i64 pk,.bool nm,.int .i64 ar] 114);have HB:=ae hb;have HX:=ae (heap_alloc_new w (.cells #[.int .i64 nk,.int .i64 pk,.bool nm,.int .i64 ar] 114));have HC:=ae (AA nk x _ (hG.on hb) hx);have HI:=ae (fun w'=>Vs n w' hn.1 hn.2)
 have HR:Hid ((cA nk x && ((((m:Int) == ar) || (ar == -1)) && ((n == 0) || (nm && dh n))))=kH nk nm ar x n m):=ae (by
  unfold kH;have e1:((m:Int) == ar)=decide ((m:Int)=ar):=by rfl
  have e2:(ar == -1)=decide (ar=-1):=by rfl
  have e3:(n == 0)=decide (n=0):=by rfl
  rw [e1,e2,e3])
 generalize kH nk nm ar x n m=R at *;generalize cA nk x=g at *;have HW:=ae (G7 n);obtain ⟨M,hM⟩:∃M:Int,M=(m:Int):=⟨_,rfl⟩;rw [<- hM] at HR ⊢;clear hG hb hM;go_enter Tryz.func88,Tryz.ntmps88;go_wp2_with fail;refine Calls.mono (show Calls _ _ _ _ _ from HC.out) ?_;rintro e w1 ⟨rfl,hb1⟩;have HB1:=ae (au HB.out hb1);have hx1:=(hb1.block _ (Array.getElem?_eq_some_iff.1 HX.out).1).trans HX.out;have y0:=af hx1 0 _ rfl;have y1:=af hx1 1 _ rfl;have y2:=af hx1 2 _ rfl;have y3:=af hx1 3 _ rfl;have uM:=ae (HI.out w1);clear hb1 HC HX HB hx1 HI;cases g with
 | false =>
  have HS:Hid (false=R):=ae (by rw [<- HR.out];rfl);clear HR uM;go_wp2;go_ret;exact ⟨aC HS.out,HB1.out⟩
 | true =>
  have hR:=HR.out;rw [Bool.true_and] at hR;have HR2:=ae hR;clear HR hR;have rest:∀(hq:Hid (((n == 0) || (nm && dh n))=R)),True:=fun _=>trivial;cases q1:(M == ar) with
  | true =>
   have p1:(M != ar)=false:=by rw [bne,q1];rfl
   have HR3:Hid (((n == 0) || (nm && dh n))=R):=ae (by rw [<- HR2.out,q1];rfl);clear HR2;cases q3:(n == 0) with
   | true =>
    have HS:Hid (true=R):=ae (by rw [<- HR3.out,q3];rfl);clear HR3 uM;go_wp2;go_ret;exact ⟨aC HS.out,HB1.out⟩
   | false =>
    cases nm with
    | false =>
     have HS:Hid (false=R):=ae (by rw [<- HR3.out,q3];rfl);clear HR3 uM;go_wp2;go_ret;exact ⟨aC HS.out,HB1.out⟩
    | true =>
     have HS:Hid ((Ints.wr n == n)=R):=ae (by rw [<- HR3.out,q3,HW.out];rfl);clear HR3 HW;generalize (Ints.wr n == n)=I at *;go_wp2_with fail;refine Calls.mono (show Calls _ _ _ _ _ from uM.out) ?_;rintro e w2 ⟨rfl,rfl⟩;go_wp2;go_ret;exact ⟨aC HS.out,HB1.out⟩
  | false =>
   have p1:(M != ar)=true:=by rw [bne,q1];rfl
   cases q2:(ar == -1) with
   | false =>
    have p2:(ar != -1)=true:=by rw [bne,q2];rfl
    have HS:Hid (false=R):=ae (by rw [<- HR2.out,q1,q2];rfl);clear HR2 uM;go_wp2;go_ret;exact ⟨aC HS.out,HB1.out⟩
   | true =>
    have p2:(ar != -1)=false:=by rw [bne,q2];rfl
    have HR3:Hid (((n == 0) || (nm && dh n))=R):=ae (by rw [<- HR2.out,q1,q2];rfl);clear HR2;cases q3:(n == 0) with
    | true =>
     have HS:Hid (true=R):=ae (by rw [<- HR3.out,q3];rfl);clear HR3 uM;go_wp2;go_ret;exact ⟨aC HS.out,HB1.out⟩
    | false =>
     cases nm with
     | false =>
      have HS:Hid (false=R):=ae (by rw [<- HR3.out,q3];rfl);clear HR3 uM;go_wp2;go_ret;exact ⟨aC HS.out,HB1.out⟩
     | true =>
      have HS:Hid ((Ints.wr n == n)=R):=ae (by rw [<- HR3.out,q3,HW.out];rfl);clear HR3 HW;generalize (Ints.wr n == n)=I at *;go_wp2_with fail;refine Calls.mono (show Calls _ _ _ _ _ from uM.out) ?_;rintro e w2 ⟨rfl,rfl⟩;go_wp2;go_ret;exact ⟨aC HS.out,HB1.out⟩
end Go.Proofs.YtpaefhceiliaiaaGreatDoor
namespace Go.Proofs.YtpaefhceiliaiaaGreatDoor
open Go.RowKit bB
set_option linter.unusedVariables false
namespace bB
variable {H:Type} {enc:TypeId × Value->H} {P:Program} {w:World} {base:Nat} {spare:Nat->Bool} {held:Bool}
theorem nu {α:Type} {c:Nat} {f:Nat->Nat->α->Prop} {g:α->Prop} {v:Value} {l:List α} (h:Row c (fun b o x=>f b o x/\g x) v l):∀x ∈ l,g x:=by
 intro x hx;rcases h.2 with ⟨rfl,_⟩|⟨b,off,cap,_,hc⟩
 ·cases hx
 ·obtain ⟨i,hi,rfl⟩:=List.getElem_of_mem hx;exact (hc i _ (List.getElem?_eq_getElem hi)).2
end bB
section Of
variable {H:Type} {enc:TypeId × Value->H} {w:World} {base:Nat} {spare:Nat->Bool} {held:Bool}
end Of
namespace bB
def Sub (w w':World):Prop:=∀b o u,w.cell? ⟨b,o,none⟩=.some u->w'.cell? ⟨b,o,none⟩=.some u
theorem Sub.refl (w:World):Sub w w:=fun _ _ _ h=>h
theorem Sub.trans {w1 w2 w3:World} (h:Sub w1 w2) (h':Sub w2 w3):Sub w1 w3:=fun b o u e=>h' b o u (h b o u e)
section On
variable {w w':World} (hb:Sub w w')
theorem Ints.sub (hb:Sub w w') {v:Value} {l:List Int} (h:Ints w v l):Ints w' v l:=Row.imp h fun _ _ _ _ h=>hb _ _ _ h
theorem qK.sub (hb : Sub w w') {α : Type} {f g : Value → α → Prop} (hfg : ∀ v x, f v x → g v x) {b o : Nat} {x : Ins α} (h : qK w f b o x) : qK w' g b o x :=
  ⟨hb _ _ _ h.op, hb _ _ _ h.a, hb _ _ _ h.b, hb _ _ _ h.n,
   let ⟨v, h1, h2⟩ := h.labels; ⟨v, hb _ _ _ h1, h2.sub hb⟩,
   let ⟨v, h1, h2⟩ := h.body; ⟨v, hb _ _ _ h1, hfg _ _ h2⟩,
   let ⟨v, h1, h2⟩ := h.els; ⟨v, hb _ _ _ h1, hfg _ _ h2⟩⟩
theorem At.sub (hb:Sub w w'):∀(d:Nat) (v:Value) (l:IL d),At w d v l->At w' d v l
 | 0,_,_,h=>h
 | d+1,_,_,h=>Row.imp (α:=Ins (IL d)) h fun _ _ _ _ h=>h.sub hb (At.sub hb d)
theorem uy.sub (hb:Sub w w') {bk o:Nat} {x:FT} (h:uy w bk o x):uy w' bk o x :=
 ⟨let ⟨v,a,b⟩:=h.params;⟨v,hb _ _ _ a,b.sub hb⟩,let ⟨v,a,b⟩:=h.results;⟨v,hb _ _ _ a,b.sub hb⟩⟩
theorem uA.sub (hb:Sub w w') {bk o:Nat} {x:Di} (h:uA w bk o x):uA w' bk o x:=⟨hb _ _ _ h.mod,hb _ _ _ h.name,hb _ _ _ h.type⟩
theorem uB.sub (hb:Sub w w') {d bk o:Nat} {x:Dj d} (h:uB w d bk o x):uB w' d bk o x :=
 ⟨hb _ _ _ h.type,let ⟨v,a,b⟩:=h.locals;⟨v,hb _ _ _ a,b.sub hb⟩,let ⟨v,a,b⟩:=h.body;⟨v,hb _ _ _ a,At.sub hb d v _ b⟩⟩
theorem qJ.sub (hb:Sub w w') {bk o:Nat} {x:Ar} (h:qJ w bk o x):qJ w' bk o x:=⟨hb _ _ _ h.min,hb _ _ _ h.max,hb _ _ _ h.has⟩
theorem uC.sub (hb:Sub w w') {d bk o:Nat} {x:Dk d} (h:uC w d bk o x):uC w' d bk o x:=⟨hb _ _ _ h.type,hb _ _ _ h.Dl,h.init.sub hb (At.sub hb d)⟩
theorem uE.sub (hb:Sub w w') {bk o:Nat} {x:Dm} (h:uE w bk o x):uE w' bk o x:=⟨hb _ _ _ h.name,hb _ _ _ h.kind,hb _ _ _ h.index⟩
theorem uF.sub (hb:Sub w w') {d bk o:Nat} {x:Dn d} (h:uF w d bk o x):uF w' d bk o x:=⟨h.offset.sub hb (At.sub hb d),let ⟨v,a,b⟩:=h.funcs;⟨v,hb _ _ _ a,b.sub hb⟩⟩
theorem uG.sub (hb:Sub w w') {d bk o:Nat} {x:Dat d} (h:uG w d bk o x):uG w' d bk o x:=⟨h.offset.sub hb (At.sub hb d),hb _ _ _ h.bytes⟩
end On
def only (w:World) (S:Nat->Bool):World:={ w with heap:=w.heap.mapIdx fun i x=>if S i then x else .cells #[] 0 (0,0) }
structure Piece {α:Type} (R:World) (c:Nat) (f:World->Nat->Nat->α->Prop) (x:α) (cs:List Value):Prop where
 len:cs.length=c
 one:∀u ∈ cs,u.oneCell'=true
 lay:∀R' b o,Sub R R'->(∀k u,cs[k]?=.some u->R'.cell? ⟨b,o+k,none⟩=.some u)->f R' b o x
theorem Piece.sub {α:Type} {R R2:World} {c:Nat} {f:World->Nat->Nat->α->Prop} {x:α} {cs:List Value} (h:Piece R c f x cs) (hs:Sub R R2):Piece R2 c f x cs :=
 ⟨h.len,h.one,fun R' b o h' hc=>h.lay R' b o (hs.trans h') hc⟩
def flat {α:Type} (ps:List (α × List Value)):List Value:=ps.flatMap (·.2)
theorem flat_get {α:Type} {c:Nat}:∀(ps:List (α × List Value)),(∀p ∈ ps,p.2.length=c)->∀(i:Nat) (p:α × List Value),ps[i]?=.some p->∀k u,p.2[k]?=.some u->(flat ps)[i*c+k]?=.some u
 | [],_,_,_,h,_,_,_=>by simp at h
 | q :: r,hl,0,p,h,k,u,hu=>by
  have:q=p:=by simpa using h
  subst this;show (q.2++flat r)[0*c+k]?=.some u;have hk:k<q.2.length:=(List.getElem?_eq_some_iff.1 hu).1;rw [Nat.zero_mul,Nat.zero_add,List.getElem?_append_left hk];exact hu
 | q :: r,hl,i+1,p,h,k,u,hu=>by
  have h':r[i]?=.some p:=by simpa using h
  have hq:q.2.length=c:=hl q (List.mem_cons_self ..);show (q.2++flat r)[(i+1)*c+k]?=.some u;have e:(i+1)*c+k=c+(i*c+k):=by rw [Nat.add_mul];omega
  rw [List.getElem?_append_right (by omega),show (i+1)*c+k-q.2.length=i*c+k by omega];exact flat_get r (fun p hp=>hl p (List.mem_cons_of_mem _ hp)) i p h' k u hu
section App
variable {P:Program}
end App
end bB
namespace bB
section Yw
variable {w w':World} {b:Nat} {c0 c1 c2 c3 c4 c5 c6 c7 c8 c9:Value}
end Yw
end bB
namespace ah
def Bw (L:List Value) (i:Nat) (v:Value) (_:World):Prop:=v=L.getD i undef
section
variable {P:Program} {ops:Array Oper} {Q:Exit->Act->World->Prop} {id:Nat} {a0:Act} {w0:World}
theorem Po {a:Act} {lo j:Nat} {L:List Value} (h:a.eval (.tmp (lo+j))=L.getD j undef):a.tmps[j+lo]?.getD undef=L.getD j undef:=by
 rw [Nat.add_comm];exact az h
theorem ab5 (n lo size:Nat) (L:List Value) (hm:P.follows .mixedOrders=true) (hT:sI ops n=true) (hd:EF ops n (fun i=>lo+i) size=true) (hs:a0.tmps.size=size)
  (hstep:∀i o a w,i<n->ops[i]?=some o->Fr a0 (fun i=>lo+i) n a->Below w0.heap.size w0 w->(∀j ∈ deps o,a.tmps[j+lo]?.getD undef=L.getD j undef)->Does P ops Q (Bw L i) o a w)
  (hend:∀a w,Fr a0 (fun i=>lo+i) n a->Below w0.heap.size w0 w->(∀i,i<n->a.eval (.tmp (lo+i))=L.getD i undef)->Q .normal a w) :
  (Code.region id ops true).wp P Q a0 w0 :=
 Pm n (fun i=>lo+i) (Bw L) hm hT (fun i j _ _ h=>by have h':lo+i=lo+j:=h;omega) (fun i hi=>by rw [hs];exact Pn hd i hi) (fun _ _ _ _ _ h _=>h)
  (fun i o a w hi ho hF hB hG=>hstep i o a w hi ho hF hB fun j hj=>Po (hG j hj)) (fun a w hF hB hG=>hend a w hF hB fun i hi=>hG i hi)
theorem ze {p:Value->World->Prop} {o oj:Oper} {a:Act} {w:World} {j lo:Nat} {b:Bool} {L:List Value} (hg:o.guard=some (j,b)) (hj:ops[j]?=some oj) (hk:oj.dst=some (j+lo)) (hb:L.getD j undef=.bool b) (hd:a.tmps[j+lo]?.getD undef=L.getD j undef) (h:o.wp P a w (fun a' w'=>∃v,a'=a.put o.dst v/\Below w.heap.size w w'/\p v w') Q):Does P ops Q p o a w :=
 Does.wanted hg hj hk (by show a.tmps.getD (j+lo) undef=_;rw [Array.getD_eq_getD_getElem?,hd,hb]) h
end
end ah
end Go.Proofs.YtpaefhceiliaiaaGreatDoor
