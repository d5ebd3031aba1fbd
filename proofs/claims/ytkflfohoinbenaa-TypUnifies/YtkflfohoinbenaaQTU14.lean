/- Texts that the claim needs. -/
import Derived.Test.YtkflfohoinbenaaQTU9
import Derived.Test.YtkflfohoinbenaaQTU8
import Derived.Test.YtkflfohoinbenaaQTU13
namespace Go.Proofs.Ytkflfohoinbenaa
open Go.RowKit Lx Pz Rep
set_option linter.unusedVariables false
namespace Pz
def namV:Value->ByteArray
 | .agg c=>match (c:Array Value)[1]? with
  | some (Value.string x)=>x
  | _=>e0
 | _=>e0
def parV:Value->ByteArray
 | .agg c=>match (c:Array Value)[2]? with
  | some (Value.string x)=>x
  | _=>e0
 | _=>e0
def numV:Value->Int
 | .agg c=>match (c:Array Value)[3]? with
  | some (Value.int _ a)=>a
  | _=>0
 | _=>0
section
variable (k:Int) (x y:ByteArray) (n:Int) (es ps:List Value) (a:Int)
end
def lsm {α:Type} (f:α->α->Bool):List α->List α->Bool
 | [],[]=>true
 | a :: l,b :: k=>f a b && lsm f l k
 | _,_=>false
section
variable {α:Type} {f:α->α->Bool}
theorem lsm_len:∀ {l k:List α},l.length≠k.length->lsm f l k=false
 | [],[],h=>absurd rfl h
 | [],_ :: _,_=>rfl
 | _ :: _,[],_=>rfl
 | a :: l,b :: k,h=>by unfold lsm;rw [lsm_len (l:=l) (k:=k) (fun e=>h (by simp [e])),Bool.and_false]
theorem lsm_drop {l k:List α} {i:Nat} {a b:α} (ha:l[i]?=some a) (hb:k[i]?=some b):lsm f (l.drop i) (k.drop i)=(f a b && lsm f (l.drop (i+1)) (k.drop (i+1))):=by
 have h1:=List.getElem?_eq_some_iff.1 ha
 have h2:=List.getElem?_eq_some_iff.1 hb
 rw [List.drop_eq_getElem_cons h1.1,List.drop_eq_getElem_cons h2.1,h1.2,h2.2,lsm]
theorem lsm_end {l k:List α} {i:Nat} (hl:l.length<=i) (hk:k.length<=i):lsm f (l.drop i) (k.drop i)=true:=by
 rw [List.drop_eq_nil_of_le hl,List.drop_eq_nil_of_le hk];rfl
end
def hdS (pl:Bool) (a b:Value):Bool:=(kindV a == kindV b) && (decide (namV a=namV b) && (decide (parV a=parV b) && ((numV a == numV b) && (!pl || (atV a == atV b)))))
def lsmL (pl:Bool):Nat->List Value->List Value->Bool
 | 0,l,k=>lsm (fun _ _=>false) l k
 | d+1,l,k=>lsm (fun a b=>hdS pl a b && (lsmL pl d (argsV a) (argsV b) && lsmL pl d (patsV a) (patsV b))) l k
def sm (pl:Bool) (d:Nat) (a b:Value):Bool:=hdS pl a b && (lsmL pl d (argsV a) (argsV b) && lsmL pl d (patsV a) (patsV b))
theorem lsmL_succ (pl:Bool) (d:Nat) (l k:List Value):lsmL pl (d+1) l k=lsm (sm pl d) l k:=rfl
def fitL:Nat->List Value->Prop
 | 0,l=>l = []
 | d+1,l=>∀x ∈ l,fit d x
theorem fit_args:∀ {d:Nat} {t:Value},fit d t->fitL d (argsV t)/\fitL d (patsV t)
 | 0,t,h=>⟨h.2.1,h.2.2⟩
 | d+1,t,h=>⟨h.2.1,h.2.2⟩
theorem str_eq (x y:ByteArray):(x.toList == y.toList)=decide (x=y):=by
 rw [ByteArray.toList_eq,ByteArray.toList_eq]
 by_cases he:x=y
 ·subst he;simp
 ·rw [decide_eq_false he,beq_eq_false_iff_ne]
  exact fun e=>he (ByteArray.ext (Array.toList_inj.1 e))
abbrev Zt:=Option Nat × Option Nat
abbrev cl (cs:Array Value) (TY:TypeId):Obj:=.cells cs TY (0,0)
def twG (TY:TypeId) (zc CA CB:Array Value) (L:List Value) (z:Zt) (i:Nat) (v:Value) (u:World):Prop :=
 (i<8->v=L.getD i undef) /\
 (i=8->∃b,z.1=some b/\v=.pointer (some ⟨b,0,none⟩)/\(u.heap[b]?=some (cl zc TY)\/u.heap[b]?=some (cl CA TY))) /\
 (i=9->∃b,z.2=some b/\v=.pointer (some ⟨b,0,none⟩)/\(u.heap[b]?=some (cl zc TY)\/u.heap[b]?=some (cl CB TY))) /\
 (i=10->∃b,z.1=some b/\u.heap[b]?=some (cl CA TY)) /\
 (i=11->∃b,z.2=some b/\u.heap[b]?=some (cl CB TY))
structure twK (B:Nat) (wr:World) (z:Zt) (u:World):Prop where
 bel:Below B wr u
 a:∀b,z.1=some b->B<=b/\b<u.heap.size
 b:∀b,z.2=some b->B<=b/\b<u.heap.size
 ne:∀b b',z.1=some b->z.2=some b'->b≠b'
 sz:B<=u.heap.size
structure twT (B:Nat) (TY:TypeId) (CA CB:Array Value) (k:Nat) (z z':Zt) (u u':World):Prop where
 bel:Below B u u'
 r:k<8->z'=z/\∀b:Nat,u'.heap[b]?=u.heap[b]?
 n8:k=8->z'=(some u.heap.size,z.2)/\u.heap.size<u'.heap.size/\∀b:Nat,b<u.heap.size->u'.heap[b]?=u.heap[b]?
 n9:k=9->z'=(z.1,some u.heap.size)/\u.heap.size<u'.heap.size/\∀b:Nat,b<u.heap.size->u'.heap[b]?=u.heap[b]?
 s8:k=10->z'=z/\(∀b,z.1=some b->u'.heap[b]?=some (cl CA TY))/\∀b:Nat,z.1≠some b->u'.heap[b]?=u.heap[b]?
 s9:k=11->z'=z/\(∀b,z.2=some b->u'.heap[b]?=some (cl CB TY))/\∀b:Nat,z.2≠some b->u'.heap[b]?=u.heap[b]?
section
variable {B:Nat} {TY:TypeId} {zc CA CB:Array Value} {L:List Value} {wr u u':World} {z z':Zt} {i k:Nat}
theorem twK.step (hk:k<12) (h:twK B wr z u) (t:twT B TY CA CB k z z' u u'):twK B wr z' u':=by
 have hs:=t.bel.size
 have hc:k<8\/k=8\/k=9\/k=10\/k=11:=by omega
 have h1:=h.a;have h2:=h.b;have h3:=h.ne;have h4:=h.sz
 refine ⟨h.bel.trans t.bel,?_,?_,?_,by omega⟩
 all_goals rcases hc with hk'|hk'|hk'|hk'|hk'
 ·obtain ⟨rfl,_⟩:=t.r hk';exact fun b hb=>⟨(h1 b hb).1,by have:=(h1 b hb).2;omega⟩
 ·obtain ⟨rfl,hlt,_⟩:=t.n8 hk';intro b hb;injection hb with hb;subst hb;exact ⟨h4,hlt⟩
 ·obtain ⟨rfl,_⟩:=t.n9 hk';exact fun b hb=>⟨(h1 b hb).1,by have:=(h1 b hb).2;omega⟩
 ·obtain ⟨rfl,_⟩:=t.s8 hk';exact fun b hb=>⟨(h1 b hb).1,by have:=(h1 b hb).2;omega⟩
 ·obtain ⟨rfl,_⟩:=t.s9 hk';exact fun b hb=>⟨(h1 b hb).1,by have:=(h1 b hb).2;omega⟩
 ·obtain ⟨rfl,_⟩:=t.r hk';exact fun b hb=>⟨(h2 b hb).1,by have:=(h2 b hb).2;omega⟩
 ·obtain ⟨rfl,_⟩:=t.n8 hk';exact fun b hb=>⟨(h2 b hb).1,by have:=(h2 b hb).2;omega⟩
 ·obtain ⟨rfl,hlt,_⟩:=t.n9 hk';intro b hb;injection hb with hb;subst hb;exact ⟨h4,hlt⟩
 ·obtain ⟨rfl,_⟩:=t.s8 hk';exact fun b hb=>⟨(h2 b hb).1,by have:=(h2 b hb).2;omega⟩
 ·obtain ⟨rfl,_⟩:=t.s9 hk';exact fun b hb=>⟨(h2 b hb).1,by have:=(h2 b hb).2;omega⟩
 ·obtain ⟨rfl,_⟩:=t.r hk';exact h3
 ·obtain ⟨rfl,_⟩:=t.n8 hk';intro b b' hb hb';injection hb with hb;have:=(h2 b' hb').2;omega
 ·obtain ⟨rfl,_⟩:=t.n9 hk';intro b b' hb hb';injection hb' with hb';have:=(h1 b hb).2;omega
 ·obtain ⟨rfl,_⟩:=t.s8 hk';exact h3
 ·obtain ⟨rfl,_⟩:=t.s9 hk';exact h3
theorem twG.stab {v:Value} (hk:k<12) (hne:i≠k) (h10:i=10->k≠8) (h11:i=11->k≠9) (h:twK B wr z u) (g:twG TY zc CA CB L z i v u) (t:twT B TY CA CB k z z' u u'):twG TY zc CA CB L z' i v u':=by
 obtain ⟨g0,g8,g9,g10,g11⟩:=g
 have hc:k<8\/k=8\/k=9\/k=10\/k=11:=by omega
 refine ⟨g0,fun hi=>?_,fun hi=>?_,fun hi=>?_,fun hi=>?_⟩
 ·obtain ⟨b,e1,e2,e3⟩:=g8 hi
  have hb:=(h.a b e1).2
  rcases hc with hk'|hk'|hk'|hk'|hk'
  ·obtain ⟨rfl,hs⟩:=t.r hk';exact ⟨b,e1,e2,by rw [hs b];exact e3⟩
  ·exact absurd (hi.trans hk'.symm) hne
  ·obtain ⟨rfl,_,hs⟩:=t.n9 hk';exact ⟨b,e1,e2,by rw [hs b hb];exact e3⟩
  ·obtain ⟨rfl,hs,_⟩:=t.s8 hk';exact ⟨b,e1,e2,.inr (hs b e1)⟩
  ·obtain ⟨rfl,_,hs⟩:=t.s9 hk';exact ⟨b,e1,e2,by rw [hs b (fun e=>h.ne b b e1 e rfl)];exact e3⟩
 ·obtain ⟨b,e1,e2,e3⟩:=g9 hi
  have hb:=(h.b b e1).2
  rcases hc with hk'|hk'|hk'|hk'|hk'
  ·obtain ⟨rfl,hs⟩:=t.r hk';exact ⟨b,e1,e2,by rw [hs b];exact e3⟩
  ·obtain ⟨rfl,_,hs⟩:=t.n8 hk';exact ⟨b,e1,e2,by rw [hs b hb];exact e3⟩
  ·exact absurd (hi.trans hk'.symm) hne
  ·obtain ⟨rfl,_,hs⟩:=t.s8 hk';exact ⟨b,e1,e2,by rw [hs b (fun e=>h.ne b b e e1 rfl)];exact e3⟩
  ·obtain ⟨rfl,hs,_⟩:=t.s9 hk';exact ⟨b,e1,e2,.inr (hs b e1)⟩
 ·obtain ⟨b,e1,e3⟩:=g10 hi
  have hb:=(h.a b e1).2
  rcases hc with hk'|hk'|hk'|hk'|hk'
  ·obtain ⟨rfl,hs⟩:=t.r hk';exact ⟨b,e1,by rw [hs b];exact e3⟩
  ·exact absurd hk' (h10 hi)
  ·obtain ⟨rfl,_,hs⟩:=t.n9 hk';exact ⟨b,e1,by rw [hs b hb];exact e3⟩
  ·exact absurd (hi.trans hk'.symm) hne
  ·obtain ⟨rfl,_,hs⟩:=t.s9 hk';exact ⟨b,e1,by rw [hs b (fun e=>h.ne b b e1 e rfl)];exact e3⟩
 ·obtain ⟨b,e1,e3⟩:=g11 hi
  have hb:=(h.b b e1).2
  rcases hc with hk'|hk'|hk'|hk'|hk'
  ·obtain ⟨rfl,hs⟩:=t.r hk';exact ⟨b,e1,by rw [hs b];exact e3⟩
  ·obtain ⟨rfl,_,hs⟩:=t.n8 hk';exact ⟨b,e1,by rw [hs b hb];exact e3⟩
  ·exact absurd hk' (h11 hi)
  ·obtain ⟨rfl,_,hs⟩:=t.s8 hk';exact ⟨b,e1,by rw [hs b (fun e=>h.ne b b e e1 rfl)];exact e3⟩
  ·exact absurd (hi.trans hk'.symm) hne
theorem twT.n9' (hB:B<=u.heap.size) (o:Obj):twT B TY CA CB 9 z (z.1,some u.heap.size) u (u.alloc o):=⟨(Below.refl _ _).alloc hB _,fun h=>absurd h (by omega),fun h=>absurd h (by omega),fun _=>⟨rfl,by simp,fun b hb=>((Below.refl _ u).alloc (Nat.le_refl _) o).block b hb⟩,fun h=>absurd h (by omega),fun h=>absurd h (by omega)⟩
theorem twG.n9' (zc':Array Value) (hz:zc'=zc):twG TY zc CA CB L (z.1,some u.heap.size) 9 (.pointer (some ⟨u.heap.size,0,none⟩)) (u.alloc (.cells zc' TY)):=⟨fun h=>absurd h (by omega),fun h=>absurd h (by omega),fun _=>⟨_,rfl,rfl,.inl (by subst hz;exact heap_alloc_new _ _)⟩,fun h=>absurd h (by omega),fun h=>absurd h (by omega)⟩
end
theorem elT {d b o:Nat} {w:World} {t:Value} (h:TyC 0 w d b o t):∃k x n u,w.cell? ⟨b,o,none⟩=some (.int .i64 k)/\w.cell? ⟨b,o+1,none⟩=some (.string x)/\w.cell? ⟨b,o+2,none⟩=some (.int .i64 n)/\w.cell? ⟨b,o+3,none⟩=some u/\u.oneCell'=true/\tyO 0 t (.agg #[.int .i64 k,.string x,.int .i64 n,u]) w:=by
 obtain ⟨k,x,n,u,es,_,h1,h2,h3,h4,o1,h5⟩:=ty_elt h
 exact ⟨k,x,n,u,h1,h2,h3,h4,o1,h5⟩
end Pz
theorem wrapN {i n:Nat} (h:i<n) (hn:n<=9223372036854775807):wrap64 ((i:Int)+1)=((i+1:Nat):Int):=by unfold wrap64;omega
namespace Reg
theorem lit_tabY {x L:List Value} {n:Nat} (hx:x.length=n) (hL:L.length=n) (h:∀i,i<n->x.getD i undef=L.getD i undef):x=L:=by
 apply List.ext_getElem (by omega)
 intro i h1 h2
 have:=h i (by omega)
 rw [List.getD_eq_getElem?_getD,List.getD_eq_getElem?_getD,List.getElem?_eq_getElem h1,List.getElem?_eq_getElem h2] at this
 exact this
end Reg
set_option maxRecDepth 100000 in
set_option maxHeartbeats 32000000 in
theorem d_sameTypes : ∀ (m : Nat) (l k : List Value) (vl vk : Value) (w : World), fitL m l → RowT 0 vl l w → RowT 0 vk k w → Calls Try.prog 64 #[vl, vk] w fun e w' => e = .returned (.bool (lsmL false m l k)) ∧ Below w.heap.size w w' := by
  intro m
  induction m with
  | zero =>
    intro l k vl vk w hf h hk
    have hl : l = [] := hf
    subst hl
    obtain ⟨d, h⟩ := h
    obtain ⟨d2, hk⟩ := hk
    obtain ⟨oR, cR, rfl, _⟩ := row_at h
    obtain ⟨oS, cS, rfl, _⟩ := row_at hk
    obtain ⟨R, hR⟩ : ∃ R, R = lsmL false 0 [] k := ⟨_, rfl⟩
    rw [← hR]
    rw [List.length_nil]
    clear h hk
    cases k with
    | nil =>
      have HS : Hid (true = R) := hideR (by rw [hR]; rfl)
      clear hR
      rw [List.length_nil]
      go_enter Try.func64, Try.ntmps64
      go_wp2_with fail
      go_loopw [5] (fun a wr => a = .int .i64 0 ∧ Hid (Below w.heap.size w wr)) (fun _ _ => 0)
      case atStart => exact ⟨rfl, hideR (Below.refl _ _)⟩
      case round =>
        obtain ⟨rfl, HB⟩ := hrel
        go_wp2
        go_ret
        exact ⟨ret_bool HS.out, HB.out⟩
    | cons x k =>
      have HS : Hid (false = R) := hideR (by rw [hR]; rfl)
      obtain ⟨n, hn⟩ : ∃ n, n = (x :: k).length := ⟨_, rfl⟩
      have hne : ¬ 0 = n := by rw [hn]; simp
      rw [← hn]
      clear hR hn
      go_enter Try.func64, Try.ntmps64
      go_wp2
      go_ret
      exact ⟨ret_bool HS.out, Below.refl _ _⟩
  | succ m ih =>
    intro l k vl vk w hf h hk
    obtain ⟨d, h⟩ := h
    obtain ⟨d2, hk⟩ := hk
    obtain ⟨oR, cR, rfl, hel⟩ := row_at h
    obtain ⟨oS, cS, rfl, hes⟩ := row_at hk
    obtain ⟨R, hR⟩ : ∃ R, R = lsmL false (m + 1) l k := ⟨_, rfl⟩
    rw [← hR]
    rw [lsmL_succ] at hR
    by_cases hlen : l.length = k.length
    · have st0 : Hid (lsm (sm false m) (l.drop 0) (k.drop 0) = R) := hideR (by rw [hR]; rfl)
      have HL := hideR h.1
      have HEL := hideR hel
      have HES := hideR hes
      have HLen := hideR hlen
      have HFit := hideR hf
      have HIH := hideR ih
      rw [← hlen]
      clear hR h hk hel hes hlen hf ih
      go_enter Try.func64, Try.ntmps64
      go_wp2_with fail
      go_loopw [5] (fun a wr => ∃ i : Nat, a = .int .i64 i ∧ i ≤ l.length ∧ Hid (lsm (sm false m) (l.drop i) (k.drop i) = R) ∧ Hid (Below w.heap.size w wr)) (fun a _ => match a with | .int _ i => l.length - i.toNat | _ => 0)
      case atStart => exact ⟨0, rfl, Nat.zero_le _, st0, hideR (Below.refl _ _)⟩
      case round =>
        obtain ⟨i, rfl, hi, HN, HB2⟩ := hrel
        clear st0
        by_cases hp : i < l.length
        · obtain ⟨t1, ht1⟩ : ∃ t1, l[i]? = some t1 := ⟨_, List.getElem?_eq_getElem hp⟩
          obtain ⟨t2, ht2⟩ : ∃ t2, k[i]? = some t2 := ⟨_, List.getElem?_eq_getElem (by have := HLen.out; omega)⟩
          obtain ⟨b, off, hoR, hC⟩ := HEL.out i t1 ht1
          obtain ⟨b2, off2, hoS, hD⟩ := HES.out i t2 ht2
          subst hoR
          subst hoS
          obtain ⟨pk, px, pn, pu, p1, p2, p3, p4, po1, pT⟩ := elT hC
          obtain ⟨qk, qx, qn, qu, q1, q2, q3, q4, qo1, qT⟩ := elT hD
          have y0 := cell_on HB2.out p1
          have y1 := cell_on HB2.out p2
          have y2 := cell_on HB2.out p3
          have y3 := cell_on HB2.out p4
          have x0 := cell_on HB2.out q1
          have x1 := cell_on HB2.out q2
          have x2 := cell_on HB2.out q3
          have x3 := cell_on HB2.out q4
          obtain ⟨dd, k1, x1', n1, es1, u1, h0, hv1, hr1⟩ := pT
          obtain ⟨dd2, k2, x2', n2, es2, u2, h02, hv2, hr2⟩ := qT
          injection hv1 with hv1
          injection hv2 with hv2
          simp only [Array.mk.injEq, List.cons.injEq, Value.int.injEq, Value.string.injEq, true_and, and_true] at hv1 hv2
          obtain ⟨rfl, rfl, rfl, rfl⟩ := hv1
          obtain ⟨rfl, rfl, rfl, rfl⟩ := hv2
          have hfit := HFit.out t1 (List.mem_of_getElem? ht1)
          have hd := lsm_drop (f := sm false m) ht1 ht2
          rw [HN.out] at hd
          have hfa : fitL m es1 := by have := (fit_args hfit).1; rw [h0] at this; exact this
          have hsm : sm false m t1 t2 = (((pk == qk) && (decide (px = qx) && (pn == qn))) && lsmL false m es1 es2) := by
            rw [h0, h02]
            show (((pk == qk) && (decide (px = qx) && (true && ((pn == qn) && true)))) && (lsmL false m es1 es2 && lsmL false m [] [])) = _
            rw [show lsmL false m [] [] = true by cases m <;> rfl, Bool.and_true, Bool.and_true, Bool.true_and]
          rw [hsm] at hd
          obtain ⟨oA, cA, rfl, _⟩ := row_at hr1
          obtain ⟨oB, cB, rfl, _⟩ := row_at hr2
          have HArgs := hideR (fun (u : World) (hu : Below w.heap.size w u) => HIH.out es1 es2 (.slice oA es1.length cA) (.slice oB es2.length cB) u hfa ⟨dd, hr1.imp (fun b o t _ ht => TyC.but (fun kk _ hl => hu.block kk hl) _ b o t ht)⟩ ⟨dd2, hr2.imp (fun b o t _ ht => TyC.but (fun kk _ hl => hu.block kk hl) _ b o t ht)⟩)
          generalize lsmL false m es1 es2 = A at *
          have HD := hideR hd
          have w1 : decide ((i : Int) < (l.length : Int)) = true := decide_eq_true (by omega)
          have hw1 := wrapN hp HL.out
          have hik : i < l.length := hp
          clear hC hD p1 q1 p2 q2 p3 q3 p4 q4 ht1 ht2 HN hd hsm hfit hfa h0 h02 hr1 hr2
          cases q0 : (pk == qk) with
          | false =>
            have r0 : (pk != qk) = true := by rw [bne, q0]; rfl
            go_upto_region 6 with fail
            refine Reg.wp_tab 51 17 68 [.slice (some ⟨b, off, none⟩) l.length cR, .int .i64 (i : Int), .pointer (some ⟨b, off + i * 4, none⟩), .pointer (some ⟨b, off + i * 4, none⟩), .int .i64 pk, .slice (some ⟨b2, off2, none⟩) l.length cS, .int .i64 (i : Int), .pointer (some ⟨b2, off2 + i * 4, none⟩), .pointer (some ⟨b2, off2 + i * 4, none⟩), .int .i64 qk, .bool true, .bool true, undef, undef, undef, undef, undef, undef, undef, undef, undef, undef, undef, .bool true, .bool true, undef, undef, undef, undef, undef, undef, undef, undef, undef, undef, undef, .bool true, .bool true, undef, undef, undef, undef, undef, undef, undef, undef, undef, undef, undef, undef, .bool true] (by kernel_rfl) (by kernel_rfl) (by kernel_rfl) rfl ?hstep ?hend
            case hstep =>
              intro j o a u hj ho hF hB hd
              have f0 : a.tmps[0]?.getD undef = .slice (some ⟨b, off, none⟩) l.length cR := Reg.ev_get (hF.eval 0 (fun i hi => by show 17 + i ≠ 0; omega))
              have f1 : a.tmps[1]?.getD undef = .slice (some ⟨b2, off2, none⟩) l.length cS := Reg.ev_get (hF.eval 1 (fun i hi => by show 17 + i ≠ 1; omega))
              have f5 : a.tmps[5]?.getD undef = .int .i64 (i : Int) := Reg.ev_get (hF.eval 5 (fun i hi => by show 17 + i ≠ 5; omega))
              have y0 := cell_on hB y0
              have y1 := cell_on hB y1
              have y2 := cell_on hB y2
              have y3 := cell_on hB y3
              have x0 := cell_on hB x0
              have x1 := cell_on hB x1
              have x2 := cell_on hB x2
              have x3 := cell_on hB x3
              skip
              iterate 51 (rcases Nat.lt_succ_iff_lt_or_eq.1 hj with hj | rfl)
              exact absurd hj (Nat.not_lt_zero _)
              all_goals (
                simp only [List.getElem?_toArray, List.getElem?_cons_succ, List.getElem?_cons_zero, Option.some.injEq] at ho
                subst ho
                first
                | exact Reg.does_tabS rfl rfl rfl rfl (hd _ (by decide)) rfl
                | (first
                  | refine Reg.Does.go rfl (Reg.step_k fun K hK => ?_)
                  | refine Reg.does_tab rfl rfl rfl rfl (hd _ (by decide)) (Reg.step_k fun K hK => ?_)
                   simp [Reg.deps, Region.binds] at hd
                   go_simp
                   first
                   | exact hK _ _ ⟨_, rfl, Below.refl _ _, rfl⟩
                   | exact hK _ _ ⟨_, rfl, Below.refl _ _, by simp [Reg.Tab, *]⟩))
            case hend =>
              intro a u hF hB hG
              have HKu := hideR (below_go HB2.out hB)
              obtain ⟨xl, hxl, rfl, hev⟩ := hF.lit (by simp)
              obtain rfl := Reg.lit_tabY hxl (L := [.slice (some ⟨b, off, none⟩) l.length cR, .int .i64 (i : Int), .pointer (some ⟨b, off + i * 4, none⟩), .pointer (some ⟨b, off + i * 4, none⟩), .int .i64 pk, .slice (some ⟨b2, off2, none⟩) l.length cS, .int .i64 (i : Int), .pointer (some ⟨b2, off2 + i * 4, none⟩), .pointer (some ⟨b2, off2 + i * 4, none⟩), .int .i64 qk, .bool true, .bool true, undef, undef, undef, undef, undef, undef, undef, undef, undef, undef, undef, .bool true, .bool true, undef, undef, undef, undef, undef, undef, undef, undef, undef, undef, undef, .bool true, .bool true, undef, undef, undef, undef, undef, undef, undef, undef, undef, undef, undef, undef, .bool true]) rfl (fun i hi => by rw [← hev i hi]; exact hG i hi)
              clear hev hxl hF hG hB
              simp only [List.take_succ_cons, List.take_zero, List.drop_succ_cons, List.drop_zero, List.cons_append, List.nil_append]
              have HS : Hid (R = false) := hideR (by rw [HD.out, q0]; simp)
              clear HD HArgs
              go_wp2
              go_ret
              exact ⟨ret_bool HS.out.symm, HKu.out⟩
          | true =>
            have r0 : (pk != qk) = false := by rw [bne, q0]; rfl
            cases q1 : decide (px = qx) with
            | false =>
              have s1 : (px.toList == qx.toList) = false := by rw [str_eq, q1]
              have r1 : (px.toList != qx.toList) = true := by rw [bne, s1]; rfl
              go_upto_region 6 with fail
              refine Reg.wp_tab 51 17 68 [.slice (some ⟨b, off, none⟩) l.length cR, .int .i64 (i : Int), .pointer (some ⟨b, off + i * 4, none⟩), .pointer (some ⟨b, off + i * 4, none⟩), .int .i64 pk, .slice (some ⟨b2, off2, none⟩) l.length cS, .int .i64 (i : Int), .pointer (some ⟨b2, off2 + i * 4, none⟩), .pointer (some ⟨b2, off2 + i * 4, none⟩), .int .i64 qk, .bool false, .bool false, .slice (some ⟨b, off, none⟩) l.length cR, .int .i64 (i : Int), .pointer (some ⟨b, off + i * 4, none⟩), .pointer (some ⟨b, off + i * 4 + 1, none⟩), .string px, .slice (some ⟨b2, off2, none⟩) l.length cS, .int .i64 (i : Int), .pointer (some ⟨b2, off2 + i * 4, none⟩), .pointer (some ⟨b2, off2 + i * 4 + 1, none⟩), .string qx, .bool true, .bool true, .bool true, undef, undef, undef, undef, undef, undef, undef, undef, undef, undef, undef, .bool true, .bool true, undef, undef, undef, undef, undef, undef, undef, undef, undef, undef, undef, undef, .bool true] (by kernel_rfl) (by kernel_rfl) (by kernel_rfl) rfl ?hstep ?hend
              case hstep =>
                intro j o a u hj ho hF hB hd
                have f0 : a.tmps[0]?.getD undef = .slice (some ⟨b, off, none⟩) l.length cR := Reg.ev_get (hF.eval 0 (fun i hi => by show 17 + i ≠ 0; omega))
                have f1 : a.tmps[1]?.getD undef = .slice (some ⟨b2, off2, none⟩) l.length cS := Reg.ev_get (hF.eval 1 (fun i hi => by show 17 + i ≠ 1; omega))
                have f5 : a.tmps[5]?.getD undef = .int .i64 (i : Int) := Reg.ev_get (hF.eval 5 (fun i hi => by show 17 + i ≠ 5; omega))
                have y0 := cell_on hB y0
                have y1 := cell_on hB y1
                have y2 := cell_on hB y2
                have y3 := cell_on hB y3
                have x0 := cell_on hB x0
                have x1 := cell_on hB x1
                have x2 := cell_on hB x2
                have x3 := cell_on hB x3
                skip
                iterate 51 (rcases Nat.lt_succ_iff_lt_or_eq.1 hj with hj | rfl)
                exact absurd hj (Nat.not_lt_zero _)
                all_goals (
                  simp only [List.getElem?_toArray, List.getElem?_cons_succ, List.getElem?_cons_zero, Option.some.injEq] at ho
                  subst ho
                  first
                  | exact Reg.does_tabS rfl rfl rfl rfl (hd _ (by decide)) rfl
                  | (first
                    | refine Reg.Does.go rfl (Reg.step_k fun K hK => ?_)
                    | refine Reg.does_tab rfl rfl rfl rfl (hd _ (by decide)) (Reg.step_k fun K hK => ?_)
                     simp [Reg.deps, Region.binds] at hd
                     go_simp
                     first
                     | exact hK _ _ ⟨_, rfl, Below.refl _ _, rfl⟩
                     | exact hK _ _ ⟨_, rfl, Below.refl _ _, by simp [Reg.Tab, *]⟩))
              case hend =>
                intro a u hF hB hG
                have HKu := hideR (below_go HB2.out hB)
                obtain ⟨xl, hxl, rfl, hev⟩ := hF.lit (by simp)
                obtain rfl := Reg.lit_tabY hxl (L := [.slice (some ⟨b, off, none⟩) l.length cR, .int .i64 (i : Int), .pointer (some ⟨b, off + i * 4, none⟩), .pointer (some ⟨b, off + i * 4, none⟩), .int .i64 pk, .slice (some ⟨b2, off2, none⟩) l.length cS, .int .i64 (i : Int), .pointer (some ⟨b2, off2 + i * 4, none⟩), .pointer (some ⟨b2, off2 + i * 4, none⟩), .int .i64 qk, .bool false, .bool false, .slice (some ⟨b, off, none⟩) l.length cR, .int .i64 (i : Int), .pointer (some ⟨b, off + i * 4, none⟩), .pointer (some ⟨b, off + i * 4 + 1, none⟩), .string px, .slice (some ⟨b2, off2, none⟩) l.length cS, .int .i64 (i : Int), .pointer (some ⟨b2, off2 + i * 4, none⟩), .pointer (some ⟨b2, off2 + i * 4 + 1, none⟩), .string qx, .bool true, .bool true, .bool true, undef, undef, undef, undef, undef, undef, undef, undef, undef, undef, undef, .bool true, .bool true, undef, undef, undef, undef, undef, undef, undef, undef, undef, undef, undef, undef, .bool true]) rfl (fun i hi => by rw [← hev i hi]; exact hG i hi)
                clear hev hxl hF hG hB
                simp only [List.take_succ_cons, List.take_zero, List.drop_succ_cons, List.drop_zero, List.cons_append, List.nil_append]
                have HS : Hid (R = false) := hideR (by rw [HD.out, q0, q1]; simp)
                clear HD HArgs
                go_wp2
                go_ret
                exact ⟨ret_bool HS.out.symm, HKu.out⟩
            | true =>
              have s1 : (px.toList == qx.toList) = true := by rw [str_eq, q1]
              have r1 : (px.toList != qx.toList) = false := by rw [bne, s1]; rfl
              cases q2 : (pn == qn) with
              | false =>
                have r2 : (pn != qn) = true := by rw [bne, q2]; rfl
                go_upto_region 6 with fail
                refine Reg.wp_tab 51 17 68 [.slice (some ⟨b, off, none⟩) l.length cR, .int .i64 (i : Int), .pointer (some ⟨b, off + i * 4, none⟩), .pointer (some ⟨b, off + i * 4, none⟩), .int .i64 pk, .slice (some ⟨b2, off2, none⟩) l.length cS, .int .i64 (i : Int), .pointer (some ⟨b2, off2 + i * 4, none⟩), .pointer (some ⟨b2, off2 + i * 4, none⟩), .int .i64 qk, .bool false, .bool false, .slice (some ⟨b, off, none⟩) l.length cR, .int .i64 (i : Int), .pointer (some ⟨b, off + i * 4, none⟩), .pointer (some ⟨b, off + i * 4 + 1, none⟩), .string px, .slice (some ⟨b2, off2, none⟩) l.length cS, .int .i64 (i : Int), .pointer (some ⟨b2, off2 + i * 4, none⟩), .pointer (some ⟨b2, off2 + i * 4 + 1, none⟩), .string qx, .bool false, .bool false, .bool false, .slice (some ⟨b, off, none⟩) l.length cR, .int .i64 (i : Int), .pointer (some ⟨b, off + i * 4, none⟩), .pointer (some ⟨b, off + i * 4 + 2, none⟩), .int .i64 pn, .slice (some ⟨b2, off2, none⟩) l.length cS, .int .i64 (i : Int), .pointer (some ⟨b2, off2 + i * 4, none⟩), .pointer (some ⟨b2, off2 + i * 4 + 2, none⟩), .int .i64 qn, .bool true, .bool true, .bool true, undef, undef, undef, undef, undef, undef, undef, undef, undef, undef, undef, undef, .bool true] (by kernel_rfl) (by kernel_rfl) (by kernel_rfl) rfl ?hstep ?hend
                case hstep =>
                  intro j o a u hj ho hF hB hd
                  have f0 : a.tmps[0]?.getD undef = .slice (some ⟨b, off, none⟩) l.length cR := Reg.ev_get (hF.eval 0 (fun i hi => by show 17 + i ≠ 0; omega))
                  have f1 : a.tmps[1]?.getD undef = .slice (some ⟨b2, off2, none⟩) l.length cS := Reg.ev_get (hF.eval 1 (fun i hi => by show 17 + i ≠ 1; omega))
                  have f5 : a.tmps[5]?.getD undef = .int .i64 (i : Int) := Reg.ev_get (hF.eval 5 (fun i hi => by show 17 + i ≠ 5; omega))
                  have y0 := cell_on hB y0
                  have y1 := cell_on hB y1
                  have y2 := cell_on hB y2
                  have y3 := cell_on hB y3
                  have x0 := cell_on hB x0
                  have x1 := cell_on hB x1
                  have x2 := cell_on hB x2
                  have x3 := cell_on hB x3
                  skip
                  iterate 51 (rcases Nat.lt_succ_iff_lt_or_eq.1 hj with hj | rfl)
                  exact absurd hj (Nat.not_lt_zero _)
                  all_goals (
                    simp only [List.getElem?_toArray, List.getElem?_cons_succ, List.getElem?_cons_zero, Option.some.injEq] at ho
                    subst ho
                    first
                    | exact Reg.does_tabS rfl rfl rfl rfl (hd _ (by decide)) rfl
                    | (first
                      | refine Reg.Does.go rfl (Reg.step_k fun K hK => ?_)
                      | refine Reg.does_tab rfl rfl rfl rfl (hd _ (by decide)) (Reg.step_k fun K hK => ?_)
                       simp [Reg.deps, Region.binds] at hd
                       go_simp
                       first
                       | exact hK _ _ ⟨_, rfl, Below.refl _ _, rfl⟩
                       | exact hK _ _ ⟨_, rfl, Below.refl _ _, by simp [Reg.Tab, *]⟩))
                case hend =>
                  intro a u hF hB hG
                  have HKu := hideR (below_go HB2.out hB)
                  obtain ⟨xl, hxl, rfl, hev⟩ := hF.lit (by simp)
                  obtain rfl := Reg.lit_tabY hxl (L := [.slice (some ⟨b, off, none⟩) l.length cR, .int .i64 (i : Int), .pointer (some ⟨b, off + i * 4, none⟩), .pointer (some ⟨b, off + i * 4, none⟩), .int .i64 pk, .slice (some ⟨b2, off2, none⟩) l.length cS, .int .i64 (i : Int), .pointer (some ⟨b2, off2 + i * 4, none⟩), .pointer (some ⟨b2, off2 + i * 4, none⟩), .int .i64 qk, .bool false, .bool false, .slice (some ⟨b, off, none⟩) l.length cR, .int .i64 (i : Int), .pointer (some ⟨b, off + i * 4, none⟩), .pointer (some ⟨b, off + i * 4 + 1, none⟩), .string px, .slice (some ⟨b2, off2, none⟩) l.length cS, .int .i64 (i : Int), .pointer (some ⟨b2, off2 + i * 4, none⟩), .pointer (some ⟨b2, off2 + i * 4 + 1, none⟩), .string qx, .bool false, .bool false, .bool false, .slice (some ⟨b, off, none⟩) l.length cR, .int .i64 (i : Int), .pointer (some ⟨b, off + i * 4, none⟩), .pointer (some ⟨b, off + i * 4 + 2, none⟩), .int .i64 pn, .slice (some ⟨b2, off2, none⟩) l.length cS, .int .i64 (i : Int), .pointer (some ⟨b2, off2 + i * 4, none⟩), .pointer (some ⟨b2, off2 + i * 4 + 2, none⟩), .int .i64 qn, .bool true, .bool true, .bool true, undef, undef, undef, undef, undef, undef, undef, undef, undef, undef, undef, undef, .bool true]) rfl (fun i hi => by rw [← hev i hi]; exact hG i hi)
                  clear hev hxl hF hG hB
                  simp only [List.take_succ_cons, List.take_zero, List.drop_succ_cons, List.drop_zero, List.cons_append, List.nil_append]
                  have HS : Hid (R = false) := hideR (by rw [HD.out, q0, q1, q2]; simp)
                  clear HD HArgs
                  go_wp2
                  go_ret
                  exact ⟨ret_bool HS.out.symm, HKu.out⟩
              | true =>
                have r2 : (pn != qn) = false := by rw [bne, q2]; rfl
                go_upto_region 6 with fail
                refine Reg.wp_tab 51 17 68 [.slice (some ⟨b, off, none⟩) l.length cR, .int .i64 (i : Int), .pointer (some ⟨b, off + i * 4, none⟩), .pointer (some ⟨b, off + i * 4, none⟩), .int .i64 pk, .slice (some ⟨b2, off2, none⟩) l.length cS, .int .i64 (i : Int), .pointer (some ⟨b2, off2 + i * 4, none⟩), .pointer (some ⟨b2, off2 + i * 4, none⟩), .int .i64 qk, .bool false, .bool false, .slice (some ⟨b, off, none⟩) l.length cR, .int .i64 (i : Int), .pointer (some ⟨b, off + i * 4, none⟩), .pointer (some ⟨b, off + i * 4 + 1, none⟩), .string px, .slice (some ⟨b2, off2, none⟩) l.length cS, .int .i64 (i : Int), .pointer (some ⟨b2, off2 + i * 4, none⟩), .pointer (some ⟨b2, off2 + i * 4 + 1, none⟩), .string qx, .bool false, .bool false, .bool false, .slice (some ⟨b, off, none⟩) l.length cR, .int .i64 (i : Int), .pointer (some ⟨b, off + i * 4, none⟩), .pointer (some ⟨b, off + i * 4 + 2, none⟩), .int .i64 pn, .slice (some ⟨b2, off2, none⟩) l.length cS, .int .i64 (i : Int), .pointer (some ⟨b2, off2 + i * 4, none⟩), .pointer (some ⟨b2, off2 + i * 4 + 2, none⟩), .int .i64 qn, .bool false, .bool false, .bool false, .slice (some ⟨b, off, none⟩) l.length cR, .int .i64 (i : Int), .pointer (some ⟨b, off + i * 4, none⟩), .pointer (some ⟨b, off + i * 4 + 3, none⟩), .slice oA es1.length cA, .slice (some ⟨b2, off2, none⟩) l.length cS, .int .i64 (i : Int), .pointer (some ⟨b2, off2 + i * 4, none⟩), .pointer (some ⟨b2, off2 + i * 4 + 3, none⟩), .slice oB es2.length cB, .bool A, .bool (!A), .bool (!A)] (by kernel_rfl) (by kernel_rfl) (by kernel_rfl) rfl ?hstep ?hend
                case hstep =>
                  intro j o a u hj ho hF hB hd
                  have f0 : a.tmps[0]?.getD undef = .slice (some ⟨b, off, none⟩) l.length cR := Reg.ev_get (hF.eval 0 (fun i hi => by show 17 + i ≠ 0; omega))
                  have f1 : a.tmps[1]?.getD undef = .slice (some ⟨b2, off2, none⟩) l.length cS := Reg.ev_get (hF.eval 1 (fun i hi => by show 17 + i ≠ 1; omega))
                  have f5 : a.tmps[5]?.getD undef = .int .i64 (i : Int) := Reg.ev_get (hF.eval 5 (fun i hi => by show 17 + i ≠ 5; omega))
                  have y0 := cell_on hB y0
                  have y1 := cell_on hB y1
                  have y2 := cell_on hB y2
                  have y3 := cell_on hB y3
                  have x0 := cell_on hB x0
                  have x1 := cell_on hB x1
                  have x2 := cell_on hB x2
                  have x3 := cell_on hB x3
                  have HAw := hideR (HArgs.out u (below_go HB2.out hB))
                  iterate 51 (rcases Nat.lt_succ_iff_lt_or_eq.1 hj with hj | rfl)
                  exact absurd hj (Nat.not_lt_zero _)
                  all_goals (
                    simp only [List.getElem?_toArray, List.getElem?_cons_succ, List.getElem?_cons_zero, Option.some.injEq] at ho
                    subst ho
                    first
                    | exact Reg.does_tabS rfl rfl rfl rfl (hd _ (by decide)) rfl
                    | (first
                      | refine Reg.Does.go rfl (Reg.step_k fun K hK => ?_)
                      | refine Reg.does_tab rfl rfl rfl rfl (hd _ (by decide)) (Reg.step_k fun K hK => ?_)
                       simp [Reg.deps, Region.binds] at hd
                       go_simp
                       first
                       | exact hK _ _ ⟨_, rfl, Below.refl _ _, rfl⟩
                       | exact hK _ _ ⟨_, rfl, Below.refl _ _, by simp [Reg.Tab, *]⟩
                       | (refine Calls.mono (show Calls _ _ _ _ _ from HAw.out) ?_; rintro e w' ⟨rfl, hw⟩; exact hK _ _ ⟨_, rfl, hw, rfl⟩)))
                case hend =>
                  intro a u hF hB hG
                  have HKu := hideR (below_go HB2.out hB)
                  obtain ⟨xl, hxl, rfl, hev⟩ := hF.lit (by simp)
                  obtain rfl := Reg.lit_tabY hxl (L := [.slice (some ⟨b, off, none⟩) l.length cR, .int .i64 (i : Int), .pointer (some ⟨b, off + i * 4, none⟩), .pointer (some ⟨b, off + i * 4, none⟩), .int .i64 pk, .slice (some ⟨b2, off2, none⟩) l.length cS, .int .i64 (i : Int), .pointer (some ⟨b2, off2 + i * 4, none⟩), .pointer (some ⟨b2, off2 + i * 4, none⟩), .int .i64 qk, .bool false, .bool false, .slice (some ⟨b, off, none⟩) l.length cR, .int .i64 (i : Int), .pointer (some ⟨b, off + i * 4, none⟩), .pointer (some ⟨b, off + i * 4 + 1, none⟩), .string px, .slice (some ⟨b2, off2, none⟩) l.length cS, .int .i64 (i : Int), .pointer (some ⟨b2, off2 + i * 4, none⟩), .pointer (some ⟨b2, off2 + i * 4 + 1, none⟩), .string qx, .bool false, .bool false, .bool false, .slice (some ⟨b, off, none⟩) l.length cR, .int .i64 (i : Int), .pointer (some ⟨b, off + i * 4, none⟩), .pointer (some ⟨b, off + i * 4 + 2, none⟩), .int .i64 pn, .slice (some ⟨b2, off2, none⟩) l.length cS, .int .i64 (i : Int), .pointer (some ⟨b2, off2 + i * 4, none⟩), .pointer (some ⟨b2, off2 + i * 4 + 2, none⟩), .int .i64 qn, .bool false, .bool false, .bool false, .slice (some ⟨b, off, none⟩) l.length cR, .int .i64 (i : Int), .pointer (some ⟨b, off + i * 4, none⟩), .pointer (some ⟨b, off + i * 4 + 3, none⟩), .slice oA es1.length cA, .slice (some ⟨b2, off2, none⟩) l.length cS, .int .i64 (i : Int), .pointer (some ⟨b2, off2 + i * 4, none⟩), .pointer (some ⟨b2, off2 + i * 4 + 3, none⟩), .slice oB es2.length cB, .bool A, .bool (!A), .bool (!A)]) rfl (fun i hi => by rw [← hev i hi]; exact hG i hi)
                  clear hev hxl hF hG hB
                  simp only [List.take_succ_cons, List.take_zero, List.drop_succ_cons, List.drop_zero, List.cons_append, List.nil_append]
                  have hD := HD.out
                  rw [q0, q1, q2, Bool.true_and, Bool.true_and, Bool.true_and] at hD
                  have HD2 := hideR hD
                  clear hD HD HArgs
                  cases A with
                  | false =>
                    have HS : Hid (R = false) := hideR (by rw [HD2.out]; rfl)
                    clear HD2
                    go_wp2
                    go_ret
                    exact ⟨ret_bool HS.out.symm, HKu.out⟩
                  | true =>
                    have HS : Hid (lsm (sm false m) (l.drop (i + 1)) (k.drop (i + 1)) = R) := hideR (by rw [HD2.out]; rfl)
                    clear HD2
                    go_wp2
                    go_roundw
                    case rel => exact ⟨i + 1, by first | rfl | (congr 1), hik, HS, HKu⟩
                    case measure => simp; omega
        · have q1 : decide ((i : Int) < (l.length : Int)) = false := decide_eq_false (by omega)
          have HS : Hid (R = true) := hideR (by rw [← HN.out]; exact lsm_end (by omega) (by have := HLen.out; omega))
          clear HN
          go_wp2
          go_ret
          exact ⟨ret_bool HS.out.symm, HB2.out⟩
    · have HS : Hid (R = false) := hideR (by rw [hR, lsm_len hlen])
      clear hR h hk hel hes hf ih
      go_enter Try.func64, Try.ntmps64
      go_wp2
      go_ret
      exact ⟨ret_bool HS.out.symm, Below.refl _ _⟩
end Go.Proofs.Ytkflfohoinbenaa
namespace Go.Proofs.Ytkflfohoinbenaa
open Go.RowKit Lx Pz Rep Ty
set_option linter.unusedVariables false
namespace Ty
theorem lsm_refl {f:Value->Value->Bool}:∀(l:List Value),(∀a ∈ l,f a a=true)->lsm f l l=true
 | [],_=>rfl
 | a :: l,h=>by
  unfold lsm
  rw [h a (List.mem_cons_self),lsm_refl l fun x hx=>h x (List.mem_cons_of_mem _ hx)]
  rfl
theorem hdS_refl (a:Value):hdS false a a=true:=by unfold hdS;simp
theorem lsmL_refl:∀(m:Nat) (l:List Value),fitL m l->lsmL false m l l=true
 | 0,l,h=>by
  have h':l = []:=h
  subst h';rfl
 | m+1,l,h=>by
  rw [lsmL_succ]
  refine lsm_refl l fun a ha=>?_
  have h1:=fit_args (h a ha)
  unfold Pz.sm
  rw [hdS_refl,lsmL_refl m _ h1.1,lsmL_refl m _ h1.2]
  rfl
theorem lkL_03 {f:Nat->Value->Int × Nat}:∀(l:List Value) (c:Nat),(∀a ∈ l,∀c,(f c a).1=0\/(f c a).1=3)->(lkL f c l).1=0\/(lkL f c l).1=3
 | [],c,_=>.inl rfl
 | t :: l,c,h=>by
  unfold lkL
  by_cases h0:(f c t).1=0
  ·rw [if_pos h0];exact lkL_03 l _ fun a ha=>h a (List.mem_cons_of_mem _ ha)
  ·rw [if_neg h0];exact h t (List.mem_cons_self) c
theorem lkT_03 {n:Nat} {h:Nat->Value} (H:Gd n h):∀(m c d:Nat) (t:Value),GP n d t->(lkT h 0 m c t).1=0\/(lkT h 0 m c t).1=3
 | 0,c,d,t,_=>.inr rfl
 | m+1,c,d,t,hg=>by
  have hlk:lkT h 0 (m+1) c t=if 1024<c+1 then (3,c+1) else if kindV (endT h t)=2/\numT (endT h t)=0 then (151,c+1) else lkL (lkT h 0 m) (c+1) (argsV (endT h t)):=rfl
  rw [hlk]
  obtain ⟨⟨d',hE⟩,hfin⟩:=H.at_ hg
  generalize endT h t=E at *
  obtain ⟨k,x,mm,es,rfl,hlen,hxs,hok,hv,hch⟩:=hE.node
  by_cases h1:1024<c+1
  ·rw [if_pos h1];exact .inr rfl
  ·rw [if_neg h1,if_neg (fun h2=>by
    obtain ⟨j,hj,he⟩:=hv h2.1
    have h3:numT (nd k x e0 mm es [] 0)=numT (vr j):=by rw [he]
    have h4:=h2.2
    rw [h3,num_vr] at h4
    omega)]
   exact lkL_03 es _ fun a ha c=>by
    obtain ⟨d1,_,hg1⟩:=hch a ha
    exact lkT_03 H m c d1 a hg1
theorem InX.of2 {S:Nat->Prop} {w:World} {C d:Nat} {t v:Value} (h:tyO C t v w) (hS:∀k,C<=k->¬ S k) (hf:Pz.few d t) (hs:∀e,smT e t):∃e,d<=e/\InX S w e t v:=by
 obtain ⟨d1,k,x,n,es,u,h1,h2,h3⟩:=h
 have hf2:∀e,Pz.few d t->Pz.few (d+e) t:=fun e hf=>by
  induction e with
  | zero=>exact hf
  | succ e ih=>exact few_up _ _ ih
 exact ⟨d+d1,by omega,⟨k,x,n,es,u,h1,h2,h3.imp fun b o t _ h=>up_le (F:=TyX false S w) (d:=d1) TyX.up (by omega) (TyX.of hS d1 b o t h)⟩,hf2 d1 hf,hs⟩
theorem InX.gp {S:Nat->Prop} {w:World} {n d:Nat} {t v:Value} (h:InX S w d t v) (hk:tkT n d t=true):GP n d t:=by
 refine ⟨h.in_.good hk,?_⟩
 obtain ⟨k,x,m,es,u,h1,h2,h3⟩:=h.at_
 subst h1
 obtain ⟨oR,cR,_,hel⟩:=row_at h3
 refine ⟨k,x,m,es,rfl,fun a ha=>?_⟩
 obtain ⟨i,hi⟩:=List.getElem?_of_mem ha
 obtain ⟨b1,off,_,hx⟩:=hel i a hi
 exact hx.isp
end Ty
set_option maxRecDepth 100000 in
set_option maxHeartbeats 4000000 in
theorem t_SameType0 {w:World} {d:Nat} {t v1 v2:Value} (h1:TyV 0 d w t v1) (h2:TyV 0 d w t v2):Calls Try.prog 45 #[v1,v2] w fun e w'=>e=.returned (.bool true)/\Below w.heap.size w w':=by
 have h1':=h1
 have h2':=h2
 obtain ⟨k1,x1,n1,es1,u1,_,rfl,hr1⟩:=h1
 obtain ⟨k2,x2,n2,es2,u2,_,rfl,hr2⟩:=h2
 obtain ⟨oR1,cR1,hu1,_⟩:=row_at hr1
 obtain ⟨oR2,cR2,hu2,_⟩:=row_at hr2
 subst hu1 hu2
 obtain ⟨W,hW⟩:∃W,W=(w.alloc (.cells #[.int .i64 k1,.string x1,.int .i64 n1,.slice oR1 es1.length cR1] 34)).alloc (.cells #[.int .i64 k2,.string x2,.int .i64 n2,.slice oR2 es2.length cR2] 34):=⟨_,rfl⟩
 have hb1:=new_on' w (.cells #[.int .i64 k1,.string x1,.int .i64 n1,.slice oR1 es1.length cR1] 34)
 have hb2:=new_on' (w.alloc (.cells #[.int .i64 k1,.string x1,.int .i64 n1,.slice oR1 es1.length cR1] 34)) (.cells #[.int .i64 k2,.string x2,.int .i64 n2,.slice oR2 es2.length cR2] 34)
 have hb:Below w.heap.size w W:=by rw [hW];exact below_go hb1 hb2
 have hx:W.heap[w.heap.size]?=some (.cells #[.int .i64 k1,.string x1,.int .i64 n1,.slice oR1 es1.length cR1] 34 (0,0)):=by rw [hW,hb2.block _ (by simp)];exact heap_alloc_new w _
 have hy:W.heap[w.heap.size+1]?=some (.cells #[.int .i64 k2,.string x2,.int .i64 n2,.slice oR2 es2.length cR2] 34 (0,0)):=by rw [hW];exact heap_newA _ _ (by simp)
 have z0:=put_cell hx 0 _ rfl
 have z1:=put_cell hx 1 _ rfl
 have z2:=put_cell hx 2 _ rfl
 have z3:=put_cell hx 3 _ rfl
 have y0:=put_cell hy 0 _ rfl
 have y1:=put_cell hy 1 _ rfl
 have y2:=put_cell hy 2 _ rfl
 have y3:=put_cell hy 3 _ rfl
 obtain ⟨W2,hW2⟩:∃W2,W2=W.alloc (.cells #[.int .i64 k1,.string x1,.int .i64 n1,.slice oR1 es1.length cR1] 34):=⟨_,rfl⟩
 have hb3:Below W.heap.size W W2:=by rw [hW2];exact new_on' _ _
 have hx2:W2.heap[W.heap.size]?=some (.cells #[.int .i64 k1,.string x1,.int .i64 n1,.slice oR1 es1.length cR1] 34 (0,0)):=by rw [hW2];exact heap_alloc_new W _
 have y0':=cell_on hb3 y0
 have y1':=cell_on hb3 y1
 have y2':=cell_on hb3 y2
 have y3':=cell_on hb3 y3
 have hs2:W2.heap.size=W.heap.size+1:=by rw [hW2];simp
 obtain ⟨W3,hW3⟩:∃W3,W3=W2.alloc (.cells #[.int .i64 k2,.string x2,.int .i64 n2,.slice oR2 es2.length cR2] 34):=⟨_,rfl⟩
 have hb4:Below W2.heap.size W2 W3:=by rw [hW3];exact new_on' _ _
 have hx3:W3.heap[W2.heap.size]?=some (.cells #[.int .i64 k2,.string x2,.int .i64 n2,.slice oR2 es2.length cR2] 34 (0,0)):=by rw [hW3];exact heap_alloc_new W2 _
 have hbA:Below w.heap.size w W3:=below_go (below_go hb hb3) hb4
 have hx2':=(hb4.block _ (Array.getElem?_eq_some_iff.1 hx2).1).trans hx2
 have HC:=hideR (d_sameTypes (d+1) [t] [t] _ _ W3 (fun x hx=>by simp only [List.mem_cons,List.not_mem_nil,or_false] at hx;subst hx;exact h1'.fit) ⟨d+1,row_oneT hx2' (h1'.but (Abv.of hbA))⟩ ⟨d+1,row_oneT hx3 (h2'.but (Abv.of hbA))⟩)
 have hrf:lsmL false (d+1) [t] [t]=true:=lsmL_refl _ _ (fun x hx=>by simp only [List.mem_cons,List.not_mem_nil,or_false] at hx;subst hx;exact h1'.fit)
 rw [hrf] at HC
 have HB3:=hideR hbA
 have HW2:=hideR hW2
 have HW3:=hideR hW3
 clear h1' h2' hr1 hr2 hb1 hb2 hb hx hy hb3 hx2 hs2 hb4 hx3 hbA hx2' hW2 hW3 hrf
 go_enter Try.func45,Try.ntmps45
 go_upto_region 1 with fail
 rw [<- hW]
 clear hW
 go_wp2_with (first|rw [<- HW2.out]|fail)
 rw [<- HW3.out]
 refine Calls.mono (show Calls _ _ _ _ _ from HC.out) ?_
 rintro e w3 ⟨rfl,hb⟩
 have HB4:=hideR (below_go HB3.out hb)
 clear hb HC HW2 HW3 z0 z1 z2 z3 y0 y1 y2 y3 y0' y1' y2' y3'
 go_wp2
 go_ret
 exact ⟨rfl,HB4.out⟩
set_option maxRecDepth 100000 in
set_option maxHeartbeats 4000000 in
theorem t_dSame0 {w:World} {d:Nat} {t v1 v2:Value} (h1:TyV 0 d w t v1) (h2:TyV 0 d w t v2):Calls Try.prog 18 #[v1,v2] w fun e w'=>e=.returned (.bool true)/\Below w.heap.size w w':=by
 have h1':=h1
 have h2':=h2
 obtain ⟨k1,x1,n1,es1,u1,_,rfl,hr1⟩:=h1
 obtain ⟨k2,x2,n2,es2,u2,_,rfl,hr2⟩:=h2
 obtain ⟨oR1,cR1,hu1,_⟩:=row_at hr1
 obtain ⟨oR2,cR2,hu2,_⟩:=row_at hr2
 subst hu1 hu2
 obtain ⟨W,hW⟩:∃W,W=(w.alloc (.cells #[.int .i64 k1,.string x1,.int .i64 n1,.slice oR1 es1.length cR1] 34)).alloc (.cells #[.int .i64 k2,.string x2,.int .i64 n2,.slice oR2 es2.length cR2] 34):=⟨_,rfl⟩
 have hb1:=new_on' w (.cells #[.int .i64 k1,.string x1,.int .i64 n1,.slice oR1 es1.length cR1] 34)
 have hb2:=new_on' (w.alloc (.cells #[.int .i64 k1,.string x1,.int .i64 n1,.slice oR1 es1.length cR1] 34)) (.cells #[.int .i64 k2,.string x2,.int .i64 n2,.slice oR2 es2.length cR2] 34)
 have hb:Below w.heap.size w W:=by rw [hW];exact below_go hb1 hb2
 have hx:W.heap[w.heap.size]?=some (.cells #[.int .i64 k1,.string x1,.int .i64 n1,.slice oR1 es1.length cR1] 34 (0,0)):=by rw [hW,hb2.block _ (by simp)];exact heap_alloc_new w _
 have hy:W.heap[w.heap.size+1]?=some (.cells #[.int .i64 k2,.string x2,.int .i64 n2,.slice oR2 es2.length cR2] 34 (0,0)):=by rw [hW];exact heap_newA _ _ (by simp)
 have z0:=put_cell hx 0 _ rfl
 have z1:=put_cell hx 1 _ rfl
 have z2:=put_cell hx 2 _ rfl
 have z3:=put_cell hx 3 _ rfl
 have y0:=put_cell hy 0 _ rfl
 have y1:=put_cell hy 1 _ rfl
 have y2:=put_cell hy 2 _ rfl
 have y3:=put_cell hy 3 _ rfl
 have HC:=hideR (t_SameType0 (h1'.but (Abv.of hb)) (h2'.but (Abv.of hb)))
 have HB:=hideR hb
 clear h1' h2' hr1 hr2 hb1 hb2 hb hx hy
 go_enter Try.func18,Try.ntmps18
 go_upto_region 1 with fail
 rw [<- hW]
 clear hW
 go_wp2_with fail
 refine Calls.mono (show Calls _ _ _ _ _ from HC.out) ?_
 rintro e w3 ⟨rfl,hb⟩
 have HB4:=hideR (below_go HB.out hb)
 clear hb HC z0 z1 z2 z3 y0 y1 y2 y3
 go_wp2
 go_ret
 exact ⟨rfl,HB4.out⟩
namespace Ty
end Ty
namespace Ty
theorem cnL_cong {f g:Nat->Value->Nat}:∀(l:List Value) (c:Nat),(∀a ∈ l,∀c,f c a=g c a)->cnL f c l=cnL g c l
 | [],c,_=>rfl
 | t :: l,c,h=>by
  unfold cnL
  rw [h t (List.mem_cons_self ..) c,cnL_cong l _ (fun a ha=>h a (List.mem_cons_of_mem _ ha))]
theorem all_cong {f g:Value->Bool}:∀(l:List Value),(∀a ∈ l,f a=g a)->l.all f=l.all g
 | [],_=>rfl
 | t :: l,h=>by rw [List.all_cons,List.all_cons,h t (List.mem_cons_self ..),all_cong l (fun a ha=>h a (List.mem_cons_of_mem _ ha))]
theorem gc_few {n:Nat}:∀(d:Nat) (t:Value),Pz.few d t->∀k,gdT n (d+k+1) t=gdT n (d+1) t/\∀c,cnT (d+k+1) c t=cnT (d+1) c t
 | 0,t,h,k=>by
  have ha:argsV t = []:=h.2.1
  refine ⟨?_,fun c=>?_⟩
  ·unfold gdT;rw [ha];rfl
  ·unfold cnT;rw [ha];rfl
 | d+1,t,h,k=>by
  have ha:∀x ∈ argsV t,Pz.few d x:=h.2.2.2.1
  have e:d+1+k=d+k+1:=by omega
  rw [e]
  refine ⟨?_,fun c=>?_⟩
  ·show (_ && (argsV t).all (gdT n (d+k+1)))=(_ && (argsV t).all (gdT n (d+1)))
   rw [all_cong _ (fun x hx=>(gc_few d x (ha x hx) k).1)]
  ·show cnL (cnT (d+k+1)) (c+1) (argsV t)=cnL (cnT (d+1)) (c+1) (argsV t)
   rw [cnL_cong _ _ (fun x hx=>(gc_few (n:=n) d x (ha x hx) k).2)]
theorem tk_few {n d e:Nat} {t:Value} (h:Pz.few d t) (he:d<=e):tkT n e t=tkT n d t:=by
 obtain ⟨k,rfl⟩:∃k,e=d+k:=⟨e-d,by omega⟩
 rw [tk_split,tk_split,(gc_few d t h k).1,(gc_few (n:=n) d t h k).2]
theorem InX.low {S:Nat->Prop} {w w':World} {d:Nat} {t v:Value} (h:TyV 0 d w t v) (hb:Below w.heap.size w w') (hS:∀k,k<w.heap.size->¬ S k) (hf:Pz.few d t) (hs:∀e,smT e t):InX S w' d t v:=by
 obtain ⟨k,x,n,es,u,h1,h2,h3⟩:=h
 exact ⟨⟨k,x,n,es,u,h1,h2,h3.imp fun b o t _ h=>TyX.low hb hS _ _ _ _ h⟩,hf,hs⟩
def SB (p r:Nat) (vs bs:Value) (k:Nat):Prop:=k=p\/k=r\/vs.ownBlock=some k\/bs.ownBlock=some k
structure Apt (p r:Nat) (vs bs:Value):Prop where
 ne:p≠r
 a1:vs.ownBlock≠some r
 a2:bs.ownBlock≠some p
 a3:∀k,vs.ownBlock=some k->bs.ownBlock≠some k
theorem DO.kv {S:Nat->Prop} {B n p r:Nat} {h:Nat->Value} {vs bs:Value} {pr:Int} {w w':World} (H:DO S B n h r bs pr w) (hk:Kv vs w w') (hA:Apt p r vs bs) (hs:∀k,vs.ownBlock=some k->S k):DO S B n h r bs pr w' :=
 H.kpW (hk.block r H.lt.1 hA.a1) (fun k e=>hk.block k (H.lt.2.1 k e) (fun e2=>hA.a3 k e2 e)) (hk.x hs)
theorem SO.kpD {S:Nat->Prop} {B n p r:Nat} {h:Nat->Value} {vs bs:Value} {w w':World} (H:SO S B n h p vs w) (hk:Kp r bs.ownBlock w w') (hA:Apt p r vs bs) (hr:S r) (hs:∀k,bs.ownBlock=some k->S k):SO S B n h p vs w':=by
 obtain ⟨h0,ls,rk,h1,h2⟩:=H
 exact ⟨h0,ls,rk,h1.kp hk hA.ne hA.a2 hA.a1 (fun k e=>hA.a3 k e),h2.on (hk.x hr hs) fun _ _ h=>h⟩
theorem SO.newS {S:Nat->Prop} {B p n:Nat} {vs:Value} {w:World} (h:SV B p (List.replicate n (.pointer none)) vs w) (hp:S p) (hs:∀k,vs.ownBlock=some k->S k):SO S B n vr p vs w :=
 ⟨⟨hp,hs⟩,_,fun _=>0,h,List.length_replicate,fun j l hj=>.inl ⟨List.eq_of_mem_replicate (List.mem_of_getElem? hj),rfl⟩⟩
theorem DO.newS {S:Nat->Prop} {B r n:Nat} {xs:List Value} {bs:Value} {w:World} (h:DV B r n xs bs 0 w) (hz:∀j,j<n->∀c x,z4[c]?=some x->xs[j*4+c]?=some x) (hr:S r) (hs:∀k,bs.ownBlock=some k->S k):DO S B n vr r bs 0 w :=
 ⟨⟨hr,hs⟩,xs,fun _=>0,h,h.row.1,fun j hj=>⟨_,_,_,_,hz j hj 0 _ rfl,hz j hj 1 _ rfl,hz j hj 2 _ rfl,hz j hj 3 _ rfl,.inl ⟨rfl,rfl⟩⟩⟩
def nxH (m f n dl:Nat) (h:Nat->Value) (a b:Value):Nat->Value:=if (tkT n dl a && tkT n dl b)=true then (unT m f 0 h a b).2.2 else h
def nxZ (m f n dl:Nat) (h:Nat->Value) (a b:Value):Int:=if (tkT n dl a && tkT n dl b)=true then (unT m f 0 h a b).1 else 1
theorem unP_said {m f n dl e1 e2 B p:Nat} {S:Nat->Prop} {h:Nat->Value} {a b vs:Value} {e:Ending} {w':World} (hf1:Pz.few dl a) (hf2:Pz.few dl b) (h1:dl<=e1) (h2:dl<=e2) (hs:((tkT n e1 a && tkT n e2 b)=true/\e=.returned (.int .i64 (unT m f 0 h a b).1)/\SO S B n (unT m f 0 h a b).2.2 p vs w')\/((tkT n e1 a && tkT n e2 b)=false/\e=.returned (.int .i64 1)/\SO S B n h p vs w')):e=.returned (.int .i64 (nxZ m f n dl h a b))/\SO S B n (nxH m f n dl h a b) p vs w':=by
 rw [tk_few hf1 h1,tk_few hf2 h2] at hs
 unfold nxZ nxH
 rcases hs with ⟨g,h1,h2⟩|⟨g,h1,h2⟩
 ·rw [if_pos g,if_pos g];exact ⟨h1,h2⟩
 ·rw [g];exact ⟨h1,h2⟩
theorem zty_v (w:World):TyV 0 0 w (nd 0 e0 e0 0 [] [] 0) (.agg #[.int .i64 0,.string ⟨#[]⟩,.int .i64 0,.slice none 0 0]):=⟨0,e0,0,[],_,rfl,rfl,row_nil _ _⟩
theorem ap_both {n m d e1:Nat} {h:Nat->Value} {t va vb:Value} {za zb:Int} {u1 u2 W5 u6 W7:World} (hH:Gd n h) (hf:Pz.few d t) (he:d<=e1) (hg:tkT n e1 t=true->GP n e1 t)
  (hP:(tkT n e1 t=false/\za=1/\va=.agg #[.int .i64 0,.string ⟨#[]⟩,.int .i64 0,.slice none 0 0])\/(tkT n e1 t=true/\(lkT h 0 m 0 t).1≠0/\za=(lkT h 0 m 0 t).1/\va=.agg #[.int .i64 0,.string ⟨#[]⟩,.int .i64 0,.slice none 0 0])\/(tkT n e1 t=true/\(lkT h 0 m 0 t).1=0/\za=0/\tyU u1.heap.size (btT h m t) va u2))
  (hD:ApG m n d h t W5.heap.size vb zb u6) (hb2:Below u2.heap.size u2 W7) (hb6:Below u6.heap.size u6 W7):za=zb/\∃X dd,TyV 0 dd W7 X va/\TyV 0 dd W7 X vb:=by
 have ht:=tk_few (n:=n) hf he
 rcases hP with ⟨g,rfl,rfl⟩|⟨g,g2,rfl,rfl⟩|⟨g,g2,rfl,hP⟩
 ·rw [ht] at g
  rcases hD with ⟨_,rfl,rfl⟩|⟨g',_⟩|⟨g',_⟩
  ·exact ⟨rfl,_,0,zty_v _,zty_v _⟩
  ·rw [g] at g';cases g'
  ·rw [g] at g';cases g'
 ·have h3:(lkT h 0 m 0 t).1=3:=(lkT_03 hH m 0 e1 t (hg g)).resolve_left g2
  rw [ht] at g
  rcases hD with ⟨g',_⟩|⟨_,_,rfl,rfl⟩|⟨_,g',_⟩
  ·rw [g] at g';cases g'
  ·exact ⟨h3,_,0,zty_v _,zty_v _⟩
  ·exact absurd g' g2
 ·rw [ht] at g
  rcases hD with ⟨g',_⟩|⟨_,g',_⟩|⟨_,_,rfl,hD⟩
  ·rw [g] at g';cases g'
  ·exact absurd g2 g'
  ·obtain ⟨d1,h1⟩:=(hP.on (C:=0) (Abv.of hb2) (Nat.zero_le _)).toO
   obtain ⟨d2,h2⟩:=hD.on (C:=0) (Abv.of hb6) (Nat.zero_le _)
   exact ⟨rfl,_,d1+d2,h1.up (by omega),h2.up (by omega)⟩
theorem tyU.one {B:Nat} {t v:Value} {w:World} (h:tyU B t v w):∃k x n u,v=.agg #[.int .i64 k,.string x,.int .i64 n,u]/\u.oneCell'=true:=h.val
end Ty
end Go.Proofs.Ytkflfohoinbenaa
