/- Texts that the claim needs. -/
import Derived.Test.YtkflfohoinbenaaQTS9
namespace Go.Proofs.Ytkflfohoinbenaa
open Go.RowKit Lx Pz Rep
set_option linter.unusedVariables false
namespace Pz
def namV:Value->ByteArray
 | .agg c=>match (c:Array Value)[1]? with
  | some (Value.string x)=>x
  | _=>e0
 | _=>e0
def parV:Value->ByteArray
 | .agg c=>match (c:Array Value)[2]? with
  | some (Value.string x)=>x
  | _=>e0
 | _=>e0
def numV:Value->Int
 | .agg c=>match (c:Array Value)[3]? with
  | some (Value.int _ a)=>a
  | _=>0
 | _=>0
section
variable (k:Int) (x y:ByteArray) (n:Int) (es ps:List Value) (a:Int)
end
def lsm {α:Type} (f:α->α->Bool):List α->List α->Bool
 | [],[]=>true
 | a :: l,b :: k=>f a b && lsm f l k
 | _,_=>false
section
variable {α:Type} {f:α->α->Bool}
theorem lsm_len:∀ {l k:List α},l.length≠k.length->lsm f l k=false
 | [],[],h=>absurd rfl h
 | [],_ :: _,_=>rfl
 | _ :: _,[],_=>rfl
 | a :: l,b :: k,h=>by unfold lsm;rw [lsm_len (l:=l) (k:=k) (fun e=>h (by simp [e])),Bool.and_false]
theorem lsm_drop {l k:List α} {i:Nat} {a b:α} (ha:l[i]?=some a) (hb:k[i]?=some b):lsm f (l.drop i) (k.drop i)=(f a b && lsm f (l.drop (i+1)) (k.drop (i+1))):=by
 have h1:=List.getElem?_eq_some_iff.1 ha
 have h2:=List.getElem?_eq_some_iff.1 hb
 rw [List.drop_eq_getElem_cons h1.1,List.drop_eq_getElem_cons h2.1,h1.2,h2.2,lsm]
theorem lsm_end {l k:List α} {i:Nat} (hl:l.length<=i) (hk:k.length<=i):lsm f (l.drop i) (k.drop i)=true:=by
 rw [List.drop_eq_nil_of_le hl,List.drop_eq_nil_of_le hk];rfl
end
def hdS (pl:Bool) (a b:Value):Bool:=(kindV a == kindV b) && (decide (namV a=namV b) && (decide (parV a=parV b) && ((numV a == numV b) && (!pl || (atV a == atV b)))))
def lsmL (pl:Bool):Nat->List Value->List Value->Bool
 | 0,l,k=>lsm (fun _ _=>false) l k
 | d+1,l,k=>lsm (fun a b=>hdS pl a b && (lsmL pl d (argsV a) (argsV b) && lsmL pl d (patsV a) (patsV b))) l k
def sm (pl:Bool) (d:Nat) (a b:Value):Bool:=hdS pl a b && (lsmL pl d (argsV a) (argsV b) && lsmL pl d (patsV a) (patsV b))
theorem lsmL_succ (pl:Bool) (d:Nat) (l k:List Value):lsmL pl (d+1) l k=lsm (sm pl d) l k:=rfl
def fitL:Nat->List Value->Prop
 | 0,l=>l = []
 | d+1,l=>∀x ∈ l,fit d x
theorem fit_args:∀ {d:Nat} {t:Value},fit d t->fitL d (argsV t)/\fitL d (patsV t)
 | 0,t,h=>⟨h.2.1,h.2.2⟩
 | d+1,t,h=>⟨h.2.1,h.2.2⟩
theorem str_eq (x y:ByteArray):(x.toList == y.toList)=decide (x=y):=by
 rw [ByteArray.toList_eq,ByteArray.toList_eq]
 by_cases he:x=y
 ·subst he;simp
 ·rw [decide_eq_false he,beq_eq_false_iff_ne]
  exact fun e=>he (ByteArray.ext (Array.toList_inj.1 e))
abbrev Zt:=Option Nat × Option Nat
abbrev cl (cs:Array Value) (TY:TypeId):Obj:=.cells cs TY (0,0)
def twG (TY:TypeId) (zc CA CB:Array Value) (L:List Value) (z:Zt) (i:Nat) (v:Value) (u:World):Prop :=
 (i<8->v=L.getD i undef) /\
 (i=8->∃b,z.1=some b/\v=.pointer (some ⟨b,0,none⟩)/\(u.heap[b]?=some (cl zc TY)\/u.heap[b]?=some (cl CA TY))) /\
 (i=9->∃b,z.2=some b/\v=.pointer (some ⟨b,0,none⟩)/\(u.heap[b]?=some (cl zc TY)\/u.heap[b]?=some (cl CB TY))) /\
 (i=10->∃b,z.1=some b/\u.heap[b]?=some (cl CA TY)) /\
 (i=11->∃b,z.2=some b/\u.heap[b]?=some (cl CB TY))
structure twK (B:Nat) (wr:World) (z:Zt) (u:World):Prop where
 bel:Below B wr u
 a:∀b,z.1=some b->B<=b/\b<u.heap.size
 b:∀b,z.2=some b->B<=b/\b<u.heap.size
 ne:∀b b',z.1=some b->z.2=some b'->b≠b'
 sz:B<=u.heap.size
structure twT (B:Nat) (TY:TypeId) (CA CB:Array Value) (k:Nat) (z z':Zt) (u u':World):Prop where
 bel:Below B u u'
 r:k<8->z'=z/\∀b:Nat,u'.heap[b]?=u.heap[b]?
 n8:k=8->z'=(some u.heap.size,z.2)/\u.heap.size<u'.heap.size/\∀b:Nat,b<u.heap.size->u'.heap[b]?=u.heap[b]?
 n9:k=9->z'=(z.1,some u.heap.size)/\u.heap.size<u'.heap.size/\∀b:Nat,b<u.heap.size->u'.heap[b]?=u.heap[b]?
 s8:k=10->z'=z/\(∀b,z.1=some b->u'.heap[b]?=some (cl CA TY))/\∀b:Nat,z.1≠some b->u'.heap[b]?=u.heap[b]?
 s9:k=11->z'=z/\(∀b,z.2=some b->u'.heap[b]?=some (cl CB TY))/\∀b:Nat,z.2≠some b->u'.heap[b]?=u.heap[b]?
section
variable {B:Nat} {TY:TypeId} {zc CA CB:Array Value} {L:List Value} {wr u u':World} {z z':Zt} {i k:Nat}
theorem twK.step (hk:k<12) (h:twK B wr z u) (t:twT B TY CA CB k z z' u u'):twK B wr z' u':=by
 have hs:=t.bel.size
 have hc:k<8\/k=8\/k=9\/k=10\/k=11:=by omega
 have h1:=h.a;have h2:=h.b;have h3:=h.ne;have h4:=h.sz
 refine ⟨h.bel.trans t.bel,?_,?_,?_,by omega⟩
 all_goals rcases hc with hk'|hk'|hk'|hk'|hk'
 ·obtain ⟨rfl,_⟩:=t.r hk';exact fun b hb=>⟨(h1 b hb).1,by have:=(h1 b hb).2;omega⟩
 ·obtain ⟨rfl,hlt,_⟩:=t.n8 hk';intro b hb;injection hb with hb;subst hb;exact ⟨h4,hlt⟩
 ·obtain ⟨rfl,_⟩:=t.n9 hk';exact fun b hb=>⟨(h1 b hb).1,by have:=(h1 b hb).2;omega⟩
 ·obtain ⟨rfl,_⟩:=t.s8 hk';exact fun b hb=>⟨(h1 b hb).1,by have:=(h1 b hb).2;omega⟩
 ·obtain ⟨rfl,_⟩:=t.s9 hk';exact fun b hb=>⟨(h1 b hb).1,by have:=(h1 b hb).2;omega⟩
 ·obtain ⟨rfl,_⟩:=t.r hk';exact fun b hb=>⟨(h2 b hb).1,by have:=(h2 b hb).2;omega⟩
 ·obtain ⟨rfl,_⟩:=t.n8 hk';exact fun b hb=>⟨(h2 b hb).1,by have:=(h2 b hb).2;omega⟩
 ·obtain ⟨rfl,hlt,_⟩:=t.n9 hk';intro b hb;injection hb with hb;subst hb;exact ⟨h4,hlt⟩
 ·obtain ⟨rfl,_⟩:=t.s8 hk';exact fun b hb=>⟨(h2 b hb).1,by have:=(h2 b hb).2;omega⟩
 ·obtain ⟨rfl,_⟩:=t.s9 hk';exact fun b hb=>⟨(h2 b hb).1,by have:=(h2 b hb).2;omega⟩
 ·obtain ⟨rfl,_⟩:=t.r hk';exact h3
 ·obtain ⟨rfl,_⟩:=t.n8 hk';intro b b' hb hb';injection hb with hb;have:=(h2 b' hb').2;omega
 ·obtain ⟨rfl,_⟩:=t.n9 hk';intro b b' hb hb';injection hb' with hb';have:=(h1 b hb).2;omega
 ·obtain ⟨rfl,_⟩:=t.s8 hk';exact h3
 ·obtain ⟨rfl,_⟩:=t.s9 hk';exact h3
theorem twT.n9' (hB:B<=u.heap.size) (o:Obj):twT B TY CA CB 9 z (z.1,some u.heap.size) u (u.alloc o):=⟨(Below.refl _ _).alloc hB _,fun h=>absurd h (by omega),fun h=>absurd h (by omega),fun _=>⟨rfl,by simp,fun b hb=>((Below.refl _ u).alloc (Nat.le_refl _) o).block b hb⟩,fun h=>absurd h (by omega),fun h=>absurd h (by omega)⟩
theorem twG.n9' (zc':Array Value) (hz:zc'=zc):twG TY zc CA CB L (z.1,some u.heap.size) 9 (.pointer (some ⟨u.heap.size,0,none⟩)) (u.alloc (.cells zc' TY)):=⟨fun h=>absurd h (by omega),fun h=>absurd h (by omega),fun _=>⟨_,rfl,rfl,.inl (by subst hz;exact heap_alloc_new _ _)⟩,fun h=>absurd h (by omega),fun h=>absurd h (by omega)⟩
end
theorem elT {d b o:Nat} {w:World} {t:Value} (h:TyC 0 w d b o t):∃k x n u,w.cell? ⟨b,o,none⟩=some (.int .i64 k)/\w.cell? ⟨b,o+1,none⟩=some (.string x)/\w.cell? ⟨b,o+2,none⟩=some (.int .i64 n)/\w.cell? ⟨b,o+3,none⟩=some u/\u.oneCell'=true/\tyO 0 t (.agg #[.int .i64 k,.string x,.int .i64 n,u]) w:=by
 obtain ⟨k,x,n,u,es,_,h1,h2,h3,h4,o1,h5⟩:=ty_elt h
 exact ⟨k,x,n,u,h1,h2,h3,h4,o1,h5⟩
end Pz
theorem wrapN {i n:Nat} (h:i<n) (hn:n<=9223372036854775807):wrap64 ((i:Int)+1)=((i+1:Nat):Int):=by unfold wrap64;omega
namespace Reg
theorem lit_tabY {x L:List Value} {n:Nat} (hx:x.length=n) (hL:L.length=n) (h:∀i,i<n->x.getD i undef=L.getD i undef):x=L:=by
 apply List.ext_getElem (by omega)
 intro i h1 h2
 have:=h i (by omega)
 rw [List.getD_eq_getElem?_getD,List.getD_eq_getElem?_getD,List.getElem?_eq_getElem h1,List.getElem?_eq_getElem h2] at this
 exact this
end Reg
set_option maxRecDepth 100000 in
set_option maxHeartbeats 32000000 in
theorem d_sameTypes : ∀ (m : Nat) (l k : List Value) (vl vk : Value) (w : World), fitL m l → RowT 0 vl l w → RowT 0 vk k w → Calls Try.prog 64 #[vl, vk] w fun e w' => e = .returned (.bool (lsmL false m l k)) ∧ Below w.heap.size w w' := by
  intro m
  induction m with
  | zero =>
    intro l k vl vk w hf h hk
    have hl : l = [] := hf
    subst hl
    obtain ⟨d, h⟩ := h
    obtain ⟨d2, hk⟩ := hk
    obtain ⟨oR, cR, rfl, _⟩ := row_at h
    obtain ⟨oS, cS, rfl, _⟩ := row_at hk
    obtain ⟨R, hR⟩ : ∃ R, R = lsmL false 0 [] k := ⟨_, rfl⟩
    rw [← hR]
    rw [List.length_nil]
    clear h hk
    cases k with
    | nil =>
      have HS : Hid (true = R) := hideR (by rw [hR]; rfl)
      clear hR
      rw [List.length_nil]
      go_enter Try.func64, Try.ntmps64
      go_wp2_with fail
      go_loopw [5] (fun a wr => a = .int .i64 0 ∧ Hid (Below w.heap.size w wr)) (fun _ _ => 0)
      case atStart => exact ⟨rfl, hideR (Below.refl _ _)⟩
      case round =>
        obtain ⟨rfl, HB⟩ := hrel
        go_wp2
        go_ret
        exact ⟨ret_bool HS.out, HB.out⟩
    | cons x k =>
      have HS : Hid (false = R) := hideR (by rw [hR]; rfl)
      obtain ⟨n, hn⟩ : ∃ n, n = (x :: k).length := ⟨_, rfl⟩
      have hne : ¬ 0 = n := by rw [hn]; simp
      rw [← hn]
      clear hR hn
      go_enter Try.func64, Try.ntmps64
      go_wp2
      go_ret
      exact ⟨ret_bool HS.out, Below.refl _ _⟩
  | succ m ih =>
    intro l k vl vk w hf h hk
    obtain ⟨d, h⟩ := h
    obtain ⟨d2, hk⟩ := hk
    obtain ⟨oR, cR, rfl, hel⟩ := row_at h
    obtain ⟨oS, cS, rfl, hes⟩ := row_at hk
    obtain ⟨R, hR⟩ : ∃ R, R = lsmL false (m + 1) l k := ⟨_, rfl⟩
    rw [← hR]
    rw [lsmL_succ] at hR
    by_cases hlen : l.length = k.length
    · have st0 : Hid (lsm (sm false m) (l.drop 0) (k.drop 0) = R) := hideR (by rw [hR]; rfl)
      have HL := hideR h.1
      have HEL := hideR hel
      have HES := hideR hes
      have HLen := hideR hlen
      have HFit := hideR hf
      have HIH := hideR ih
      rw [← hlen]
      clear hR h hk hel hes hlen hf ih
      go_enter Try.func64, Try.ntmps64
      go_wp2_with fail
      go_loopw [5] (fun a wr => ∃ i : Nat, a = .int .i64 i ∧ i ≤ l.length ∧ Hid (lsm (sm false m) (l.drop i) (k.drop i) = R) ∧ Hid (Below w.heap.size w wr)) (fun a _ => match a with | .int _ i => l.length - i.toNat | _ => 0)
      case atStart => exact ⟨0, rfl, Nat.zero_le _, st0, hideR (Below.refl _ _)⟩
      case round =>
        obtain ⟨i, rfl, hi, HN, HB2⟩ := hrel
        clear st0
        by_cases hp : i < l.length
        · obtain ⟨t1, ht1⟩ : ∃ t1, l[i]? = some t1 := ⟨_, List.getElem?_eq_getElem hp⟩
          obtain ⟨t2, ht2⟩ : ∃ t2, k[i]? = some t2 := ⟨_, List.getElem?_eq_getElem (by have := HLen.out; omega)⟩
          obtain ⟨b, off, hoR, hC⟩ := HEL.out i t1 ht1
          obtain ⟨b2, off2, hoS, hD⟩ := HES.out i t2 ht2
          subst hoR
          subst hoS
          obtain ⟨pk, px, pn, pu, p1, p2, p3, p4, po1, pT⟩ := elT hC
          obtain ⟨qk, qx, qn, qu, q1, q2, q3, q4, qo1, qT⟩ := elT hD
          have y0 := cell_on HB2.out p1
          have y1 := cell_on HB2.out p2
          have y2 := cell_on HB2.out p3
          have y3 := cell_on HB2.out p4
          have x0 := cell_on HB2.out q1
          have x1 := cell_on HB2.out q2
          have x2 := cell_on HB2.out q3
          have x3 := cell_on HB2.out q4
          obtain ⟨dd, k1, x1', n1, es1, u1, h0, hv1, hr1⟩ := pT
          obtain ⟨dd2, k2, x2', n2, es2, u2, h02, hv2, hr2⟩ := qT
          injection hv1 with hv1
          injection hv2 with hv2
          simp only [Array.mk.injEq, List.cons.injEq, Value.int.injEq, Value.string.injEq, true_and, and_true] at hv1 hv2
          obtain ⟨rfl, rfl, rfl, rfl⟩ := hv1
          obtain ⟨rfl, rfl, rfl, rfl⟩ := hv2
          have hfit := HFit.out t1 (List.mem_of_getElem? ht1)
          have hd := lsm_drop (f := sm false m) ht1 ht2
          rw [HN.out] at hd
          have hfa : fitL m es1 := by have := (fit_args hfit).1; rw [h0] at this; exact this
          have hsm : sm false m t1 t2 = (((pk == qk) && (decide (px = qx) && (pn == qn))) && lsmL false m es1 es2) := by
            rw [h0, h02]
            show (((pk == qk) && (decide (px = qx) && (true && ((pn == qn) && true)))) && (lsmL false m es1 es2 && lsmL false m [] [])) = _
            rw [show lsmL false m [] [] = true by cases m <;> rfl, Bool.and_true, Bool.and_true, Bool.true_and]
          rw [hsm] at hd
          obtain ⟨oA, cA, rfl, _⟩ := row_at hr1
          obtain ⟨oB, cB, rfl, _⟩ := row_at hr2
          have HArgs := hideR (fun (u : World) (hu : Below w.heap.size w u) => HIH.out es1 es2 (.slice oA es1.length cA) (.slice oB es2.length cB) u hfa ⟨dd, hr1.imp (fun b o t _ ht => TyC.but (fun kk _ hl => hu.block kk hl) _ b o t ht)⟩ ⟨dd2, hr2.imp (fun b o t _ ht => TyC.but (fun kk _ hl => hu.block kk hl) _ b o t ht)⟩)
          generalize lsmL false m es1 es2 = A at *
          have HD := hideR hd
          have w1 : decide ((i : Int) < (l.length : Int)) = true := decide_eq_true (by omega)
          have hw1 := wrapN hp HL.out
          have hik : i < l.length := hp
          clear hC hD p1 q1 p2 q2 p3 q3 p4 q4 ht1 ht2 HN hd hsm hfit hfa h0 h02 hr1 hr2
          cases q0 : (pk == qk) with
          | false =>
            have r0 : (pk != qk) = true := by rw [bne, q0]; rfl
            go_upto_region 6 with fail
            refine Reg.wp_tab 51 17 68 [.slice (some ⟨b, off, none⟩) l.length cR, .int .i64 (i : Int), .pointer (some ⟨b, off + i * 4, none⟩), .pointer (some ⟨b, off + i * 4, none⟩), .int .i64 pk, .slice (some ⟨b2, off2, none⟩) l.length cS, .int .i64 (i : Int), .pointer (some ⟨b2, off2 + i * 4, none⟩), .pointer (some ⟨b2, off2 + i * 4, none⟩), .int .i64 qk, .bool true, .bool true, undef, undef, undef, undef, undef, undef, undef, undef, undef, undef, undef, .bool true, .bool true, undef, undef, undef, undef, undef, undef, undef, undef, undef, undef, undef, .bool true, .bool true, undef, undef, undef, undef, undef, undef, undef, undef, undef, undef, undef, undef, .bool true] (by kernel_rfl) (by kernel_rfl) (by kernel_rfl) rfl ?hstep ?hend
            case hstep =>
              intro j o a u hj ho hF hB hd
              have f0 : a.tmps[0]?.getD undef = .slice (some ⟨b, off, none⟩) l.length cR := Reg.ev_get (hF.eval 0 (fun i hi => by show 17 + i ≠ 0; omega))
              have f1 : a.tmps[1]?.getD undef = .slice (some ⟨b2, off2, none⟩) l.length cS := Reg.ev_get (hF.eval 1 (fun i hi => by show 17 + i ≠ 1; omega))
              have f5 : a.tmps[5]?.getD undef = .int .i64 (i : Int) := Reg.ev_get (hF.eval 5 (fun i hi => by show 17 + i ≠ 5; omega))
              have y0 := cell_on hB y0
              have y1 := cell_on hB y1
              have y2 := cell_on hB y2
              have y3 := cell_on hB y3
              have x0 := cell_on hB x0
              have x1 := cell_on hB x1
              have x2 := cell_on hB x2
              have x3 := cell_on hB x3
              skip
              iterate 51 (rcases Nat.lt_succ_iff_lt_or_eq.1 hj with hj | rfl)
              exact absurd hj (Nat.not_lt_zero _)
              all_goals (
                simp only [List.getElem?_toArray, List.getElem?_cons_succ, List.getElem?_cons_zero, Option.some.injEq] at ho
                subst ho
                first
                | exact Reg.does_tabS rfl rfl rfl rfl (hd _ (by decide)) rfl
                | (first
                  | refine Reg.Does.go rfl (Reg.step_k fun K hK => ?_)
                  | refine Reg.does_tab rfl rfl rfl rfl (hd _ (by decide)) (Reg.step_k fun K hK => ?_)
                   simp [Reg.deps, Region.binds] at hd
                   go_simp
                   first
                   | exact hK _ _ ⟨_, rfl, Below.refl _ _, rfl⟩
                   | exact hK _ _ ⟨_, rfl, Below.refl _ _, by simp [Reg.Tab, *]⟩))
            case hend =>
              intro a u hF hB hG
              have HKu := hideR (below_go HB2.out hB)
              obtain ⟨xl, hxl, rfl, hev⟩ := hF.lit (by simp)
              obtain rfl := Reg.lit_tabY hxl (L := [.slice (some ⟨b, off, none⟩) l.length cR, .int .i64 (i : Int), .pointer (some ⟨b, off + i * 4, none⟩), .pointer (some ⟨b, off + i * 4, none⟩), .int .i64 pk, .slice (some ⟨b2, off2, none⟩) l.length cS, .int .i64 (i : Int), .pointer (some ⟨b2, off2 + i * 4, none⟩), .pointer (some ⟨b2, off2 + i * 4, none⟩), .int .i64 qk, .bool true, .bool true, undef, undef, undef, undef, undef, undef, undef, undef, undef, undef, undef, .bool true, .bool true, undef, undef, undef, undef, undef, undef, undef, undef, undef, undef, undef, .bool true, .bool true, undef, undef, undef, undef, undef, undef, undef, undef, undef, undef, undef, undef, .bool true]) rfl (fun i hi => by rw [← hev i hi]; exact hG i hi)
              clear hev hxl hF hG hB
              simp only [List.take_succ_cons, List.take_zero, List.drop_succ_cons, List.drop_zero, List.cons_append, List.nil_append]
              have HS : Hid (R = false) := hideR (by rw [HD.out, q0]; simp)
              clear HD HArgs
              go_wp2
              go_ret
              exact ⟨ret_bool HS.out.symm, HKu.out⟩
          | true =>
            have r0 : (pk != qk) = false := by rw [bne, q0]; rfl
            cases q1 : decide (px = qx) with
            | false =>
              have s1 : (px.toList == qx.toList) = false := by rw [str_eq, q1]
              have r1 : (px.toList != qx.toList) = true := by rw [bne, s1]; rfl
              go_upto_region 6 with fail
              refine Reg.wp_tab 51 17 68 [.slice (some ⟨b, off, none⟩) l.length cR, .int .i64 (i : Int), .pointer (some ⟨b, off + i * 4, none⟩), .pointer (some ⟨b, off + i * 4, none⟩), .int .i64 pk, .slice (some ⟨b2, off2, none⟩) l.length cS, .int .i64 (i : Int), .pointer (some ⟨b2, off2 + i * 4, none⟩), .pointer (some ⟨b2, off2 + i * 4, none⟩), .int .i64 qk, .bool false, .bool false, .slice (some ⟨b, off, none⟩) l.length cR, .int .i64 (i : Int), .pointer (some ⟨b, off + i * 4, none⟩), .pointer (some ⟨b, off + i * 4 + 1, none⟩), .string px, .slice (some ⟨b2, off2, none⟩) l.length cS, .int .i64 (i : Int), .pointer (some ⟨b2, off2 + i * 4, none⟩), .pointer (some ⟨b2, off2 + i * 4 + 1, none⟩), .string qx, .bool true, .bool true, .bool true, undef, undef, undef, undef, undef, undef, undef, undef, undef, undef, undef, .bool true, .bool true, undef, undef, undef, undef, undef, undef, undef, undef, undef, undef, undef, undef, .bool true] (by kernel_rfl) (by kernel_rfl) (by kernel_rfl) rfl ?hstep ?hend
              case hstep =>
                intro j o a u hj ho hF hB hd
                have f0 : a.tmps[0]?.getD undef = .slice (some ⟨b, off, none⟩) l.length cR := Reg.ev_get (hF.eval 0 (fun i hi => by show 17 + i ≠ 0; omega))
                have f1 : a.tmps[1]?.getD undef = .slice (some ⟨b2, off2, none⟩) l.length cS := Reg.ev_get (hF.eval 1 (fun i hi => by show 17 + i ≠ 1; omega))
                have f5 : a.tmps[5]?.getD undef = .int .i64 (i : Int) := Reg.ev_get (hF.eval 5 (fun i hi => by show 17 + i ≠ 5; omega))
                have y0 := cell_on hB y0
                have y1 := cell_on hB y1
                have y2 := cell_on hB y2
                have y3 := cell_on hB y3
                have x0 := cell_on hB x0
                have x1 := cell_on hB x1
                have x2 := cell_on hB x2
                have x3 := cell_on hB x3
                skip
                iterate 51 (rcases Nat.lt_succ_iff_lt_or_eq.1 hj with hj | rfl)
                exact absurd hj (Nat.not_lt_zero _)
                all_goals (
                  simp only [List.getElem?_toArray, List.getElem?_cons_succ, List.getElem?_cons_zero, Option.some.injEq] at ho
                  subst ho
                  first
                  | exact Reg.does_tabS rfl rfl rfl rfl (hd _ (by decide)) rfl
                  | (first
                    | refine Reg.Does.go rfl (Reg.step_k fun K hK => ?_)
                    | refine Reg.does_tab rfl rfl rfl rfl (hd _ (by decide)) (Reg.step_k fun K hK => ?_)
                     simp [Reg.deps, Region.binds] at hd
                     go_simp
                     first
                     | exact hK _ _ ⟨_, rfl, Below.refl _ _, rfl⟩
                     | exact hK _ _ ⟨_, rfl, Below.refl _ _, by simp [Reg.Tab, *]⟩))
              case hend =>
                intro a u hF hB hG
                have HKu := hideR (below_go HB2.out hB)
                obtain ⟨xl, hxl, rfl, hev⟩ := hF.lit (by simp)
                obtain rfl := Reg.lit_tabY hxl (L := [.slice (some ⟨b, off, none⟩) l.length cR, .int .i64 (i : Int), .pointer (some ⟨b, off + i * 4, none⟩), .pointer (some ⟨b, off + i * 4, none⟩), .int .i64 pk, .slice (some ⟨b2, off2, none⟩) l.length cS, .int .i64 (i : Int), .pointer (some ⟨b2, off2 + i * 4, none⟩), .pointer (some ⟨b2, off2 + i * 4, none⟩), .int .i64 qk, .bool false, .bool false, .slice (some ⟨b, off, none⟩) l.length cR, .int .i64 (i : Int), .pointer (some ⟨b, off + i * 4, none⟩), .pointer (some ⟨b, off + i * 4 + 1, none⟩), .string px, .slice (some ⟨b2, off2, none⟩) l.length cS, .int .i64 (i : Int), .pointer (some ⟨b2, off2 + i * 4, none⟩), .pointer (some ⟨b2, off2 + i * 4 + 1, none⟩), .string qx, .bool true, .bool true, .bool true, undef, undef, undef, undef, undef, undef, undef, undef, undef, undef, undef, .bool true, .bool true, undef, undef, undef, undef, undef, undef, undef, undef, undef, undef, undef, undef, .bool true]) rfl (fun i hi => by rw [← hev i hi]; exact hG i hi)
                clear hev hxl hF hG hB
                simp only [List.take_succ_cons, List.take_zero, List.drop_succ_cons, List.drop_zero, List.cons_append, List.nil_append]
                have HS : Hid (R = false) := hideR (by rw [HD.out, q0, q1]; simp)
                clear HD HArgs
                go_wp2
                go_ret
                exact ⟨ret_bool HS.out.symm, HKu.out⟩
            | true =>
              have s1 : (px.toList == qx.toList) = true := by rw [str_eq, q1]
              have r1 : (px.toList != qx.toList) = false := by rw [bne, s1]; rfl
              cases q2 : (pn == qn) with
              | false =>
                have r2 : (pn != qn) = true := by rw [bne, q2]; rfl
                go_upto_region 6 with fail
                refine Reg.wp_tab 51 17 68 [.slice (some ⟨b, off, none⟩) l.length cR, .int .i64 (i : Int), .pointer (some ⟨b, off + i * 4, none⟩), .pointer (some ⟨b, off + i * 4, none⟩), .int .i64 pk, .slice (some ⟨b2, off2, none⟩) l.length cS, .int .i64 (i : Int), .pointer (some ⟨b2, off2 + i * 4, none⟩), .pointer (some ⟨b2, off2 + i * 4, none⟩), .int .i64 qk, .bool false, .bool false, .slice (some ⟨b, off, none⟩) l.length cR, .int .i64 (i : Int), .pointer (some ⟨b, off + i * 4, none⟩), .pointer (some ⟨b, off + i * 4 + 1, none⟩), .string px, .slice (some ⟨b2, off2, none⟩) l.length cS, .int .i64 (i : Int), .pointer (some ⟨b2, off2 + i * 4, none⟩), .pointer (some ⟨b2, off2 + i * 4 + 1, none⟩), .string qx, .bool false, .bool false, .bool false, .slice (some ⟨b, off, none⟩) l.length cR, .int .i64 (i : Int), .pointer (some ⟨b, off + i * 4, none⟩), .pointer (some ⟨b, off + i * 4 + 2, none⟩), .int .i64 pn, .slice (some ⟨b2, off2, none⟩) l.length cS, .int .i64 (i : Int), .pointer (some ⟨b2, off2 + i * 4, none⟩), .pointer (some ⟨b2, off2 + i * 4 + 2, none⟩), .int .i64 qn, .bool true, .bool true, .bool true, undef, undef, undef, undef, undef, undef, undef, undef, undef, undef, undef, undef, .bool true] (by kernel_rfl) (by kernel_rfl) (by kernel_rfl) rfl ?hstep ?hend
                case hstep =>
                  intro j o a u hj ho hF hB hd
                  have f0 : a.tmps[0]?.getD undef = .slice (some ⟨b, off, none⟩) l.length cR := Reg.ev_get (hF.eval 0 (fun i hi => by show 17 + i ≠ 0; omega))
                  have f1 : a.tmps[1]?.getD undef = .slice (some ⟨b2, off2, none⟩) l.length cS := Reg.ev_get (hF.eval 1 (fun i hi => by show 17 + i ≠ 1; omega))
                  have f5 : a.tmps[5]?.getD undef = .int .i64 (i : Int) := Reg.ev_get (hF.eval 5 (fun i hi => by show 17 + i ≠ 5; omega))
                  have y0 := cell_on hB y0
                  have y1 := cell_on hB y1
                  have y2 := cell_on hB y2
                  have y3 := cell_on hB y3
                  have x0 := cell_on hB x0
                  have x1 := cell_on hB x1
                  have x2 := cell_on hB x2
                  have x3 := cell_on hB x3
                  skip
                  iterate 51 (rcases Nat.lt_succ_iff_lt_or_eq.1 hj with hj | rfl)
                  exact absurd hj (Nat.not_lt_zero _)
                  all_goals (
                    simp only [List.getElem?_toArray, List.getElem?_cons_succ, List.getElem?_cons_zero, Option.some.injEq] at ho
                    subst ho
                    first
                    | exact Reg.does_tabS rfl rfl rfl rfl (hd _ (by decide)) rfl
                    | (first
                      | refine Reg.Does.go rfl (Reg.step_k fun K hK => ?_)
                      | refine Reg.does_tab rfl rfl rfl rfl (hd _ (by decide)) (Reg.step_k fun K hK => ?_)
                       simp [Reg.deps, Region.binds] at hd
                       go_simp
                       first
                       | exact hK _ _ ⟨_, rfl, Below.refl _ _, rfl⟩
                       | exact hK _ _ ⟨_, rfl, Below.refl _ _, by simp [Reg.Tab, *]⟩))
                case hend =>
                  intro a u hF hB hG
                  have HKu := hideR (below_go HB2.out hB)
                  obtain ⟨xl, hxl, rfl, hev⟩ := hF.lit (by simp)
                  obtain rfl := Reg.lit_tabY hxl (L := [.slice (some ⟨b, off, none⟩) l.length cR, .int .i64 (i : Int), .pointer (some ⟨b, off + i * 4, none⟩), .pointer (some ⟨b, off + i * 4, none⟩), .int .i64 pk, .slice (some ⟨b2, off2, none⟩) l.length cS, .int .i64 (i : Int), .pointer (some ⟨b2, off2 + i * 4, none⟩), .pointer (some ⟨b2, off2 + i * 4, none⟩), .int .i64 qk, .bool false, .bool false, .slice (some ⟨b, off, none⟩) l.length cR, .int .i64 (i : Int), .pointer (some ⟨b, off + i * 4, none⟩), .pointer (some ⟨b, off + i * 4 + 1, none⟩), .string px, .slice (some ⟨b2, off2, none⟩) l.length cS, .int .i64 (i : Int), .pointer (some ⟨b2, off2 + i * 4, none⟩), .pointer (some ⟨b2, off2 + i * 4 + 1, none⟩), .string qx, .bool false, .bool false, .bool false, .slice (some ⟨b, off, none⟩) l.length cR, .int .i64 (i : Int), .pointer (some ⟨b, off + i * 4, none⟩), .pointer (some ⟨b, off + i * 4 + 2, none⟩), .int .i64 pn, .slice (some ⟨b2, off2, none⟩) l.length cS, .int .i64 (i : Int), .pointer (some ⟨b2, off2 + i * 4, none⟩), .pointer (some ⟨b2, off2 + i * 4 + 2, none⟩), .int .i64 qn, .bool true, .bool true, .bool true, undef, undef, undef, undef, undef, undef, undef, undef, undef, undef, undef, undef, .bool true]) rfl (fun i hi => by rw [← hev i hi]; exact hG i hi)
                  clear hev hxl hF hG hB
                  simp only [List.take_succ_cons, List.take_zero, List.drop_succ_cons, List.drop_zero, List.cons_append, List.nil_append]
                  have HS : Hid (R = false) := hideR (by rw [HD.out, q0, q1, q2]; simp)
                  clear HD HArgs
                  go_wp2
                  go_ret
                  exact ⟨ret_bool HS.out.symm, HKu.out⟩
              | true =>
                have r2 : (pn != qn) = false := by rw [bne, q2]; rfl
                go_upto_region 6 with fail
                refine Reg.wp_tab 51 17 68 [.slice (some ⟨b, off, none⟩) l.length cR, .int .i64 (i : Int), .pointer (some ⟨b, off + i * 4, none⟩), .pointer (some ⟨b, off + i * 4, none⟩), .int .i64 pk, .slice (some ⟨b2, off2, none⟩) l.length cS, .int .i64 (i : Int), .pointer (some ⟨b2, off2 + i * 4, none⟩), .pointer (some ⟨b2, off2 + i * 4, none⟩), .int .i64 qk, .bool false, .bool false, .slice (some ⟨b, off, none⟩) l.length cR, .int .i64 (i : Int), .pointer (some ⟨b, off + i * 4, none⟩), .pointer (some ⟨b, off + i * 4 + 1, none⟩), .string px, .slice (some ⟨b2, off2, none⟩) l.length cS, .int .i64 (i : Int), .pointer (some ⟨b2, off2 + i * 4, none⟩), .pointer (some ⟨b2, off2 + i * 4 + 1, none⟩), .string qx, .bool false, .bool false, .bool false, .slice (some ⟨b, off, none⟩) l.length cR, .int .i64 (i : Int), .pointer (some ⟨b, off + i * 4, none⟩), .pointer (some ⟨b, off + i * 4 + 2, none⟩), .int .i64 pn, .slice (some ⟨b2, off2, none⟩) l.length cS, .int .i64 (i : Int), .pointer (some ⟨b2, off2 + i * 4, none⟩), .pointer (some ⟨b2, off2 + i * 4 + 2, none⟩), .int .i64 qn, .bool false, .bool false, .bool false, .slice (some ⟨b, off, none⟩) l.length cR, .int .i64 (i : Int), .pointer (some ⟨b, off + i * 4, none⟩), .pointer (some ⟨b, off + i * 4 + 3, none⟩), .slice oA es1.length cA, .slice (some ⟨b2, off2, none⟩) l.length cS, .int .i64 (i : Int), .pointer (some ⟨b2, off2 + i * 4, none⟩), .pointer (some ⟨b2, off2 + i * 4 + 3, none⟩), .slice oB es2.length cB, .bool A, .bool (!A), .bool (!A)] (by kernel_rfl) (by kernel_rfl) (by kernel_rfl) rfl ?hstep ?hend
                case hstep =>
                  intro j o a u hj ho hF hB hd
                  have f0 : a.tmps[0]?.getD undef = .slice (some ⟨b, off, none⟩) l.length cR := Reg.ev_get (hF.eval 0 (fun i hi => by show 17 + i ≠ 0; omega))
                  have f1 : a.tmps[1]?.getD undef = .slice (some ⟨b2, off2, none⟩) l.length cS := Reg.ev_get (hF.eval 1 (fun i hi => by show 17 + i ≠ 1; omega))
                  have f5 : a.tmps[5]?.getD undef = .int .i64 (i : Int) := Reg.ev_get (hF.eval 5 (fun i hi => by show 17 + i ≠ 5; omega))
                  have y0 := cell_on hB y0
                  have y1 := cell_on hB y1
                  have y2 := cell_on hB y2
                  have y3 := cell_on hB y3
                  have x0 := cell_on hB x0
                  have x1 := cell_on hB x1
                  have x2 := cell_on hB x2
                  have x3 := cell_on hB x3
                  have HAw := hideR (HArgs.out u (below_go HB2.out hB))
                  iterate 51 (rcases Nat.lt_succ_iff_lt_or_eq.1 hj with hj | rfl)
                  exact absurd hj (Nat.not_lt_zero _)
                  all_goals (
                    simp only [List.getElem?_toArray, List.getElem?_cons_succ, List.getElem?_cons_zero, Option.some.injEq] at ho
                    subst ho
                    first
                    | exact Reg.does_tabS rfl rfl rfl rfl (hd _ (by decide)) rfl
                    | (first
                      | refine Reg.Does.go rfl (Reg.step_k fun K hK => ?_)
                      | refine Reg.does_tab rfl rfl rfl rfl (hd _ (by decide)) (Reg.step_k fun K hK => ?_)
                       simp [Reg.deps, Region.binds] at hd
                       go_simp
                       first
                       | exact hK _ _ ⟨_, rfl, Below.refl _ _, rfl⟩
                       | exact hK _ _ ⟨_, rfl, Below.refl _ _, by simp [Reg.Tab, *]⟩
                       | (refine Calls.mono (show Calls _ _ _ _ _ from HAw.out) ?_; rintro e w' ⟨rfl, hw⟩; exact hK _ _ ⟨_, rfl, hw, rfl⟩)))
                case hend =>
                  intro a u hF hB hG
                  have HKu := hideR (below_go HB2.out hB)
                  obtain ⟨xl, hxl, rfl, hev⟩ := hF.lit (by simp)
                  obtain rfl := Reg.lit_tabY hxl (L := [.slice (some ⟨b, off, none⟩) l.length cR, .int .i64 (i : Int), .pointer (some ⟨b, off + i * 4, none⟩), .pointer (some ⟨b, off + i * 4, none⟩), .int .i64 pk, .slice (some ⟨b2, off2, none⟩) l.length cS, .int .i64 (i : Int), .pointer (some ⟨b2, off2 + i * 4, none⟩), .pointer (some ⟨b2, off2 + i * 4, none⟩), .int .i64 qk, .bool false, .bool false, .slice (some ⟨b, off, none⟩) l.length cR, .int .i64 (i : Int), .pointer (some ⟨b, off + i * 4, none⟩), .pointer (some ⟨b, off + i * 4 + 1, none⟩), .string px, .slice (some ⟨b2, off2, none⟩) l.length cS, .int .i64 (i : Int), .pointer (some ⟨b2, off2 + i * 4, none⟩), .pointer (some ⟨b2, off2 + i * 4 + 1, none⟩), .string qx, .bool false, .bool false, .bool false, .slice (some ⟨b, off, none⟩) l.length cR, .int .i64 (i : Int), .pointer (some ⟨b, off + i * 4, none⟩), .pointer (some ⟨b, off + i * 4 + 2, none⟩), .int .i64 pn, .slice (some ⟨b2, off2, none⟩) l.length cS, .int .i64 (i : Int), .pointer (some ⟨b2, off2 + i * 4, none⟩), .pointer (some ⟨b2, off2 + i * 4 + 2, none⟩), .int .i64 qn, .bool false, .bool false, .bool false, .slice (some ⟨b, off, none⟩) l.length cR, .int .i64 (i : Int), .pointer (some ⟨b, off + i * 4, none⟩), .pointer (some ⟨b, off + i * 4 + 3, none⟩), .slice oA es1.length cA, .slice (some ⟨b2, off2, none⟩) l.length cS, .int .i64 (i : Int), .pointer (some ⟨b2, off2 + i * 4, none⟩), .pointer (some ⟨b2, off2 + i * 4 + 3, none⟩), .slice oB es2.length cB, .bool A, .bool (!A), .bool (!A)]) rfl (fun i hi => by rw [← hev i hi]; exact hG i hi)
                  clear hev hxl hF hG hB
                  simp only [List.take_succ_cons, List.take_zero, List.drop_succ_cons, List.drop_zero, List.cons_append, List.nil_append]
                  have hD := HD.out
                  rw [q0, q1, q2, Bool.true_and, Bool.true_and, Bool.true_and] at hD
                  have HD2 := hideR hD
                  clear hD HD HArgs
                  cases A with
                  | false =>
                    have HS : Hid (R = false) := hideR (by rw [HD2.out]; rfl)
                    clear HD2
                    go_wp2
                    go_ret
                    exact ⟨ret_bool HS.out.symm, HKu.out⟩
                  | true =>
                    have HS : Hid (lsm (sm false m) (l.drop (i + 1)) (k.drop (i + 1)) = R) := hideR (by rw [HD2.out]; rfl)
                    clear HD2
                    go_wp2
                    go_roundw
                    case rel => exact ⟨i + 1, by first | rfl | (congr 1), hik, HS, HKu⟩
                    case measure => simp; omega
        · have q1 : decide ((i : Int) < (l.length : Int)) = false := decide_eq_false (by omega)
          have HS : Hid (R = true) := hideR (by rw [← HN.out]; exact lsm_end (by omega) (by have := HLen.out; omega))
          clear HN
          go_wp2
          go_ret
          exact ⟨ret_bool HS.out.symm, HB2.out⟩
    · have HS : Hid (R = false) := hideR (by rw [hR, lsm_len hlen])
      clear hR h hk hel hes hf ih
      go_enter Try.func64, Try.ntmps64
      go_wp2
      go_ret
      exact ⟨ret_bool HS.out.symm, Below.refl _ _⟩
end Go.Proofs.Ytkflfohoinbenaa
namespace Go.Proofs.Ytkflfohoinbenaa
open Go.RowKit Lx Pz Rep Ty
set_option linter.unusedVariables false
namespace Ty
theorem lsm_refl {f:Value->Value->Bool}:∀(l:List Value),(∀a ∈ l,f a a=true)->lsm f l l=true
 | [],_=>rfl
 | a :: l,h=>by
  unfold lsm
  rw [h a (List.mem_cons_self),lsm_refl l fun x hx=>h x (List.mem_cons_of_mem _ hx)]
  rfl
theorem hdS_refl (a:Value):hdS false a a=true:=by unfold hdS;simp
theorem lsmL_refl:∀(m:Nat) (l:List Value),fitL m l->lsmL false m l l=true
 | 0,l,h=>by
  have h':l = []:=h
  subst h';rfl
 | m+1,l,h=>by
  rw [lsmL_succ]
  refine lsm_refl l fun a ha=>?_
  have h1:=fit_args (h a ha)
  unfold Pz.sm
  rw [hdS_refl,lsmL_refl m _ h1.1,lsmL_refl m _ h1.2]
  rfl
theorem InX.of2 {S:Nat->Prop} {w:World} {C d:Nat} {t v:Value} (h:tyO C t v w) (hS:∀k,C<=k->¬ S k) (hf:Pz.few d t) (hs:∀e,smT e t):∃e,d<=e/\InX S w e t v:=by
 obtain ⟨d1,k,x,n,es,u,h1,h2,h3⟩:=h
 have hf2:∀e,Pz.few d t->Pz.few (d+e) t:=fun e hf=>by
  induction e with
  | zero=>exact hf
  | succ e ih=>exact few_up _ _ ih
 exact ⟨d+d1,by omega,⟨k,x,n,es,u,h1,h2,h3.imp fun b o t _ h=>up_le (F:=TyX false S w) (d:=d1) TyX.up (by omega) (TyX.of hS d1 b o t h)⟩,hf2 d1 hf,hs⟩
theorem InX.gp {S:Nat->Prop} {w:World} {n d:Nat} {t v:Value} (h:InX S w d t v) (hk:tkT n d t=true):GP n d t:=by
 refine ⟨h.in_.good hk,?_⟩
 obtain ⟨k,x,m,es,u,h1,h2,h3⟩:=h.at_
 subst h1
 obtain ⟨oR,cR,_,hel⟩:=row_at h3
 refine ⟨k,x,m,es,rfl,fun a ha=>?_⟩
 obtain ⟨i,hi⟩:=List.getElem?_of_mem ha
 obtain ⟨b1,off,_,hx⟩:=hel i a hi
 exact hx.isp
end Ty
set_option maxRecDepth 100000 in
set_option maxHeartbeats 4000000 in
theorem t_SameType0 {w:World} {d:Nat} {t v1 v2:Value} (h1:TyV 0 d w t v1) (h2:TyV 0 d w t v2):Calls Try.prog 45 #[v1,v2] w fun e w'=>e=.returned (.bool true)/\Below w.heap.size w w':=by
 have h1':=h1
 have h2':=h2
 obtain ⟨k1,x1,n1,es1,u1,_,rfl,hr1⟩:=h1
 obtain ⟨k2,x2,n2,es2,u2,_,rfl,hr2⟩:=h2
 obtain ⟨oR1,cR1,hu1,_⟩:=row_at hr1
 obtain ⟨oR2,cR2,hu2,_⟩:=row_at hr2
 subst hu1 hu2
 obtain ⟨W,hW⟩:∃W,W=(w.alloc (.cells #[.int .i64 k1,.string x1,.int .i64 n1,.slice oR1 es1.length cR1] 34)).alloc (.cells #[.int .i64 k2,.string x2,.int .i64 n2,.slice oR2 es2.length cR2] 34):=⟨_,rfl⟩
 have hb1:=new_on' w (.cells #[.int .i64 k1,.string x1,.int .i64 n1,.slice oR1 es1.length cR1] 34)
 have hb2:=new_on' (w.alloc (.cells #[.int .i64 k1,.string x1,.int .i64 n1,.slice oR1 es1.length cR1] 34)) (.cells #[.int .i64 k2,.string x2,.int .i64 n2,.slice oR2 es2.length cR2] 34)
 have hb:Below w.heap.size w W:=by rw [hW];exact below_go hb1 hb2
 have hx:W.heap[w.heap.size]?=some (.cells #[.int .i64 k1,.string x1,.int .i64 n1,.slice oR1 es1.length cR1] 34 (0,0)):=by rw [hW,hb2.block _ (by simp)];exact heap_alloc_new w _
 have hy:W.heap[w.heap.size+1]?=some (.cells #[.int .i64 k2,.string x2,.int .i64 n2,.slice oR2 es2.length cR2] 34 (0,0)):=by rw [hW];exact heap_newA _ _ (by simp)
 have z0:=put_cell hx 0 _ rfl
 have z1:=put_cell hx 1 _ rfl
 have z2:=put_cell hx 2 _ rfl
 have z3:=put_cell hx 3 _ rfl
 have y0:=put_cell hy 0 _ rfl
 have y1:=put_cell hy 1 _ rfl
 have y2:=put_cell hy 2 _ rfl
 have y3:=put_cell hy 3 _ rfl
 obtain ⟨W2,hW2⟩:∃W2,W2=W.alloc (.cells #[.int .i64 k1,.string x1,.int .i64 n1,.slice oR1 es1.length cR1] 34):=⟨_,rfl⟩
 have hb3:Below W.heap.size W W2:=by rw [hW2];exact new_on' _ _
 have hx2:W2.heap[W.heap.size]?=some (.cells #[.int .i64 k1,.string x1,.int .i64 n1,.slice oR1 es1.length cR1] 34 (0,0)):=by rw [hW2];exact heap_alloc_new W _
 have y0':=cell_on hb3 y0
 have y1':=cell_on hb3 y1
 have y2':=cell_on hb3 y2
 have y3':=cell_on hb3 y3
 have hs2:W2.heap.size=W.heap.size+1:=by rw [hW2];simp
 obtain ⟨W3,hW3⟩:∃W3,W3=W2.alloc (.cells #[.int .i64 k2,.string x2,.int .i64 n2,.slice oR2 es2.length cR2] 34):=⟨_,rfl⟩
 have hb4:Below W2.heap.size W2 W3:=by rw [hW3];exact new_on' _ _
 have hx3:W3.heap[W2.heap.size]?=some (.cells #[.int .i64 k2,.string x2,.int .i64 n2,.slice oR2 es2.length cR2] 34 (0,0)):=by rw [hW3];exact heap_alloc_new W2 _
 have hbA:Below w.heap.size w W3:=below_go (below_go hb hb3) hb4
 have hx2':=(hb4.block _ (Array.getElem?_eq_some_iff.1 hx2).1).trans hx2
 have HC:=hideR (d_sameTypes (d+1) [t] [t] _ _ W3 (fun x hx=>by simp only [List.mem_cons,List.not_mem_nil,or_false] at hx;subst hx;exact h1'.fit) ⟨d+1,row_oneT hx2' (h1'.but (Abv.of hbA))⟩ ⟨d+1,row_oneT hx3 (h2'.but (Abv.of hbA))⟩)
 have hrf:lsmL false (d+1) [t] [t]=true:=lsmL_refl _ _ (fun x hx=>by simp only [List.mem_cons,List.not_mem_nil,or_false] at hx;subst hx;exact h1'.fit)
 rw [hrf] at HC
 have HB3:=hideR hbA
 have HW2:=hideR hW2
 have HW3:=hideR hW3
 clear h1' h2' hr1 hr2 hb1 hb2 hb hx hy hb3 hx2 hs2 hb4 hx3 hbA hx2' hW2 hW3 hrf
 go_enter Try.func45,Try.ntmps45
 go_upto_region 1 with fail
 rw [<- hW]
 clear hW
 go_wp2_with (first|rw [<- HW2.out]|fail)
 rw [<- HW3.out]
 refine Calls.mono (show Calls _ _ _ _ _ from HC.out) ?_
 rintro e w3 ⟨rfl,hb⟩
 have HB4:=hideR (below_go HB3.out hb)
 clear hb HC HW2 HW3 z0 z1 z2 z3 y0 y1 y2 y3 y0' y1' y2' y3'
 go_wp2
 go_ret
 exact ⟨rfl,HB4.out⟩
set_option maxRecDepth 100000 in
set_option maxHeartbeats 4000000 in
theorem t_dSame0 {w:World} {d:Nat} {t v1 v2:Value} (h1:TyV 0 d w t v1) (h2:TyV 0 d w t v2):Calls Try.prog 18 #[v1,v2] w fun e w'=>e=.returned (.bool true)/\Below w.heap.size w w':=by
 have h1':=h1
 have h2':=h2
 obtain ⟨k1,x1,n1,es1,u1,_,rfl,hr1⟩:=h1
 obtain ⟨k2,x2,n2,es2,u2,_,rfl,hr2⟩:=h2
 obtain ⟨oR1,cR1,hu1,_⟩:=row_at hr1
 obtain ⟨oR2,cR2,hu2,_⟩:=row_at hr2
 subst hu1 hu2
 obtain ⟨W,hW⟩:∃W,W=(w.alloc (.cells #[.int .i64 k1,.string x1,.int .i64 n1,.slice oR1 es1.length cR1] 34)).alloc (.cells #[.int .i64 k2,.string x2,.int .i64 n2,.slice oR2 es2.length cR2] 34):=⟨_,rfl⟩
 have hb1:=new_on' w (.cells #[.int .i64 k1,.string x1,.int .i64 n1,.slice oR1 es1.length cR1] 34)
 have hb2:=new_on' (w.alloc (.cells #[.int .i64 k1,.string x1,.int .i64 n1,.slice oR1 es1.length cR1] 34)) (.cells #[.int .i64 k2,.string x2,.int .i64 n2,.slice oR2 es2.length cR2] 34)
 have hb:Below w.heap.size w W:=by rw [hW];exact below_go hb1 hb2
 have hx:W.heap[w.heap.size]?=some (.cells #[.int .i64 k1,.string x1,.int .i64 n1,.slice oR1 es1.length cR1] 34 (0,0)):=by rw [hW,hb2.block _ (by simp)];exact heap_alloc_new w _
 have hy:W.heap[w.heap.size+1]?=some (.cells #[.int .i64 k2,.string x2,.int .i64 n2,.slice oR2 es2.length cR2] 34 (0,0)):=by rw [hW];exact heap_newA _ _ (by simp)
 have z0:=put_cell hx 0 _ rfl
 have z1:=put_cell hx 1 _ rfl
 have z2:=put_cell hx 2 _ rfl
 have z3:=put_cell hx 3 _ rfl
 have y0:=put_cell hy 0 _ rfl
 have y1:=put_cell hy 1 _ rfl
 have y2:=put_cell hy 2 _ rfl
 have y3:=put_cell hy 3 _ rfl
 have HC:=hideR (t_SameType0 (h1'.but (Abv.of hb)) (h2'.but (Abv.of hb)))
 have HB:=hideR hb
 clear h1' h2' hr1 hr2 hb1 hb2 hb hx hy
 go_enter Try.func18,Try.ntmps18
 go_upto_region 1 with fail
 rw [<- hW]
 clear hW
 go_wp2_with fail
 refine Calls.mono (show Calls _ _ _ _ _ from HC.out) ?_
 rintro e w3 ⟨rfl,hb⟩
 have HB4:=hideR (below_go HB.out hb)
 clear hb HC z0 z1 z2 z3 y0 y1 y2 y3
 go_wp2
 go_ret
 exact ⟨rfl,HB4.out⟩
namespace Ty
def Gt (n:Nat) (t:Value):Prop:=∃d,GP n d t
theorem Gt.part {n:Nat} {t a:Value} (h:Gt n t) (ha:a ∈ argsV t):Gt n a:=by
 obtain ⟨d,h⟩:=h
 obtain ⟨k,x,m,es,rfl,_,_,_,_,hp⟩:=h.node
 obtain ⟨d1,_,h1⟩:=hp a ha
 exact ⟨d1,h1⟩
theorem Gt.var {n:Nat} {t:Value} (h:Gt n t) (hk:kindV t=2):∃j,j<n/\t=vr j:=by
 obtain ⟨d,h⟩:=h
 obtain ⟨k,x,m,es,rfl,_,_,_,hv,_⟩:=h.node
 exact hv hk
theorem Gt.num {n:Nat} {t:Value} (h:Gt n t) (hk:kindV t≠2):numT t=0:=by
 obtain ⟨d,h⟩:=h
 obtain ⟨k,x,m,es,rfl,_,_,ho,_,_⟩:=h.node
 have hk':k≠2:=hk
 show m=0
 unfold ndOk at ho
 split at ho
 ·simp only [Bool.and_eq_true,beq_iff_eq] at ho;exact ho.2.1
 ·split at ho
  ·simp only [Bool.and_eq_true,beq_iff_eq] at ho;exact ho.2.1
  ·split at ho
   ·simp only [Bool.and_eq_true,beq_iff_eq] at ho;exact ho.2
   ·cases ho
theorem Gt.vr {n i:Nat} (hi:i<n):Gt n (vr i):=⟨0,GP.vr hi⟩
theorem Gd.gt {n:Nat} {h:Nat->Value} (H:Gd n h) {t:Value} (hg:Gt n t):Gt n (endT h t)/\((∃j,j<n/\endT h t=vr j/\h j=vr j)\/kindV (endT h t)≠2):=by
 obtain ⟨d,hg⟩:=hg
 exact H.at_ hg
theorem Gd.idem {n:Nat} {h:Nat->Value} (H:Gd n h) {t:Value} (hg:Gt n t):endT h (endT h t)=endT h t:=by
 rcases (H.gt hg).2 with ⟨j,_,h1,h2⟩|h1
 ·rw [h1,endT_vr,h2]
 ·unfold endT at h1 ⊢
  rw [if_neg h1]
def eqT (h:Nat->Value):Nat->Value->Value->Prop
 | 0,_,_=>False
 | e+1,x,y=>kindV (endT h x)=kindV (endT h y)/\namT (endT h x)=namT (endT h y)/\numT (endT h x)=numT (endT h y)/\(argsV (endT h x)).length=(argsV (endT h y)).length/\∀(i:Nat) (a b:Value),(argsV (endT h x))[i]?=some a->(argsV (endT h y))[i]?=some b->eqT h e a b
def EQ (h:Nat->Value) (x y:Value):Prop:=∃e,eqT h e x y
theorem exT_up {h:Nat->Value}:∀(e:Nat) (t:Value),exT h e t->exT h (e+1) t
 | 0,_,h=>h.elim
 | e+1,t,h=>fun a ha=>exT_up e a (h a ha)
theorem exT_le {h:Nat->Value} {e:Nat} {t:Value} (hx:exT h e t):∀k,exT h (e+k) t
 | 0=>hx
 | k+1=>exT_up _ _ (exT_le hx k)
theorem eqT_up {h:Nat->Value}:∀(e:Nat) (x y:Value),eqT h e x y->eqT h (e+1) x y
 | 0,_,_,h=>h.elim
 | e+1,x,y,h=>⟨h.1,h.2.1,h.2.2.1,h.2.2.2.1,fun i a b ha hb=>eqT_up e a b (h.2.2.2.2 i a b ha hb)⟩
theorem eqT_le {h:Nat->Value} {e:Nat} {x y:Value} (hx:eqT h e x y):∀k,eqT h (e+k) x y
 | 0=>hx
 | k+1=>eqT_up _ _ _ (eqT_le hx k)
theorem eqT_symm {h:Nat->Value}:∀(e:Nat) (x y:Value),eqT h e x y->eqT h e y x
 | 0,_,_,h=>h.elim
 | e+1,x,y,h=>⟨h.1.symm,h.2.1.symm,h.2.2.1.symm,h.2.2.2.1.symm,fun i a b ha hb=>eqT_symm e b a (h.2.2.2.2 i b a hb ha)⟩
theorem eqT_trans {h:Nat->Value}:∀(e e':Nat) (x y z:Value),eqT h e x y->eqT h e' y z->eqT h e x z
 | 0,_,_,_,_,h,_=>h.elim
 | e+1,0,_,_,_,_,h=>h.elim
 | e+1,e'+1,x,y,z,q,g=>⟨q.1.trans g.1,q.2.1.trans g.2.1,q.2.2.1.trans g.2.2.1,q.2.2.2.1.trans g.2.2.2.1,fun i a c ha hc=>by
  have hl:=(List.getElem?_eq_some_iff.1 ha).1
  obtain ⟨b,hb⟩:∃b,(argsV (endT h y))[i]?=some b:=⟨_,List.getElem?_eq_getElem (by rw [<- q.2.2.2.1];exact hl)⟩
  exact eqT_trans e e' a b c (q.2.2.2.2 i a b ha hb) (g.2.2.2.2 i b c hb hc)⟩
theorem eqT_ends {h:Nat->Value}:∀(e:Nat) (x y:Value),endT h x=endT h y->exT h e x->eqT h e x y
 | 0,_,_,_,h=>h.elim
 | e+1,x,y,hxy,hx=>by
  refine ⟨by rw [hxy],by rw [hxy],by rw [hxy],by rw [hxy],fun i a b ha hb=>?_⟩
  rw [<- hxy,ha] at hb
  injection hb with hb
  subst hb
  exact eqT_ends e a a rfl (hx a (List.mem_of_getElem? ha))
theorem eqT_ex {h:Nat->Value}:∀(e d:Nat) (x y:Value),eqT h e x y->exT h d x->exT h d y
 | 0,_,_,_,h,_=>h.elim
 | e+1,0,_,_,_,h=>h.elim
 | e+1,d+1,x,y,q,hx=>fun b hb=>by
  obtain ⟨i,hi⟩:=List.getElem?_of_mem hb
  have hl:=(List.getElem?_eq_some_iff.1 hi).1
  obtain ⟨a,ha⟩:∃a,(argsV (endT h x))[i]?=some a:=⟨_,List.getElem?_eq_getElem (by rw [q.2.2.2.1];exact hl)⟩
  exact eqT_ex e d a b (q.2.2.2.2 i a b ha hi) (hx a (List.mem_of_getElem? ha))
theorem EQ.symm {h:Nat->Value} {x y:Value} (H:EQ h x y):EQ h y x:=by obtain ⟨e,H⟩:=H;exact ⟨e,eqT_symm _ _ _ H⟩
theorem EQ.trans {h:Nat->Value} {x y z:Value} (H:EQ h x y) (G:EQ h y z):EQ h x z:=by
 obtain ⟨e,H⟩:=H
 obtain ⟨e',G⟩:=G
 exact ⟨e,eqT_trans _ _ _ _ _ H G⟩
def AC (n:Nat) (h:Nat->Value):Prop:=∃E,∀j,j<n->exT h E (vr j)
theorem AC.ex {n:Nat} {h:Nat->Value} {E:Nat} (hE:∀j,j<n->exT h E (vr j)):∀(d:Nat) (t:Value),GP n d t->exT h (d+1+E) t:=by
 intro d
 induction d using Nat.strongRecOn with
 | _ d ih =>
  intro t hg
  obtain ⟨k,x,m,es,rfl,_,_,_,hv,hp⟩:=hg.node
  by_cases hk:k=2
  ·obtain ⟨j,hj,he⟩:=hv hk
   rw [he,Nat.add_comm]
   exact exT_le (hE j hj) _
  ·rw [show d+1+E=(d+E)+1 by omega]
   intro a ha
   rw [endT_nv hk] at ha
   obtain ⟨d1,hd,h1⟩:=hp a ha
   have h2:=ih d1 (by omega) a h1
   rw [show d+E=d1+1+E by omega]
   exact h2
theorem AC.of {n:Nat} {h:Nat->Value} (H:AC n h) {t:Value} (hg:Gt n t):∃e,exT h e t:=by
 obtain ⟨E,hE⟩:=H
 obtain ⟨d,hg⟩:=hg
 exact ⟨_,AC.ex hE d t hg⟩
theorem AC.ends {n:Nat} {h:Nat->Value} (H:AC n h) {x y:Value} (hg:Gt n x) (he:endT h x=endT h y):EQ h x y:=by
 obtain ⟨e,hx⟩:=H.of hg
 exact ⟨e,eqT_ends e x y he hx⟩
def Ext (h h':Nat->Value):Prop:=∃F:Value->Value,(∀t,endT h' t=F (endT h t))/\∀X,kindV X≠2->F X=X
theorem Ext.refl (h:Nat->Value):Ext h h:=⟨id,fun _=>rfl,fun _ _=>rfl⟩
theorem Ext.trans {h h1 h2:Nat->Value} (a:Ext h h1) (b:Ext h1 h2):Ext h h2:=by
 obtain ⟨F,f1,f2⟩:=a
 obtain ⟨G,g1,g2⟩:=b
 exact ⟨fun X=>G (F X),fun t=>by rw [g1,f1],fun X hX=>by show G (F X)=X;rw [f2 X hX,g2 X hX]⟩
theorem Ext.same {h h':Nat->Value} (H:Ext h h') {x y:Value} (e:endT h x=endT h y):endT h' x=endT h' y:=by
 obtain ⟨F,f1,_⟩:=H
 rw [f1,f1,e]
theorem Ext.eqT {n:Nat} {h h':Nat->Value} (H:Ext h h') (hG:Gd n h) {E:Nat} (hE:∀j,j<n->exT h' E (vr j)):∀(e:Nat) (x y:Value),Gt n x->Gt n y->Ty.eqT h e x y->Ty.eqT h' (e+E) x y
 | 0,_,_,_,_,h=>h.elim
 | e+1,x,y,hx,hy,hq=>by
  by_cases hk:kindV (endT h x)=2
  ·obtain ⟨i,hi,h1⟩:=(hG.gt hx).1.var hk
   obtain ⟨j,hj,h2⟩:=(hG.gt hy).1.var (by rw [<- hq.1];exact hk)
   have h3:((i:Int)+1)=(j:Int)+1:=by have:=hq.2.2.1;rw [h1,h2] at this;exact this
   have h4:endT h x=endT h y:=by rw [h1,h2];congr 1;omega
   refine eqT_ends _ x y (H.same h4) ?_
   have h5:endT h' x=endT h' (vr i):=H.same (by rw [<- h1,hG.idem hx])
   have h6:exT h' (E+(e+1)) (vr i):=exT_le (hE i hi) _
   rw [Nat.add_comm]
   show exT h' (E+(e+1)) x
   have h7:exT h' ((E+e)+1) (vr i):=h6
   show ∀a ∈ argsV (endT h' x),exT h' (E+e) a
   rw [h5];exact h7
  ·obtain ⟨F,f1,f2⟩:=H
   have hX:endT h' x=endT h x:=by rw [f1,f2 _ hk]
   have hY:endT h' y=endT h y:=by rw [f1,f2 _ (by rw [<- hq.1];exact hk)]
   rw [show e+1+E=(e+E)+1 by omega]
   refine ⟨by rw [hX,hY];exact hq.1,by rw [hX,hY];exact hq.2.1,by rw [hX,hY];exact hq.2.2.1,by rw [hX,hY];exact hq.2.2.2.1,fun i a b ha hb=>?_⟩
   rw [hX] at ha
   rw [hY] at hb
   exact Ext.eqT ⟨F,f1,f2⟩ hG hE e a b ((hG.gt hx).1.part (List.mem_of_getElem? ha)) ((hG.gt hy).1.part (List.mem_of_getElem? hb)) (hq.2.2.2.2 i a b ha hb)
theorem Ext.eq {n:Nat} {h h':Nat->Value} (H:Ext h h') (hG:Gd n h) (hA:AC n h') {x y:Value} (hx:Gt n x) (hy:Gt n y) (hq:EQ h x y):EQ h' x y:=by
 obtain ⟨e,hq⟩:=hq
 obtain ⟨E,hE⟩:=hA
 exact ⟨_,H.eqT hG hE e x y hx hy hq⟩
def EQs (h:Nat->Value) (la lb:List Value):Prop:=la.length=lb.length/\∀(i:Nat) (a b:Value),la[i]?=some a->lb[i]?=some b->EQ h a b
theorem EQs.bound {h:Nat->Value}:∀(la lb:List Value),EQs h la lb->∃E,∀(i:Nat) (a b:Value),la[i]?=some a->lb[i]?=some b->eqT h E a b
 | [],lb,_=>⟨0,fun i a b ha _=>by cases ha⟩
 | x :: la,[],H=>by have:=H.1;cases this
 | x :: la,y :: lb,H=>by
  obtain ⟨E,hE⟩:=EQs.bound la lb ⟨Nat.succ.inj H.1,fun i a b ha hb=>H.2 (i+1) a b ha hb⟩
  obtain ⟨e,he⟩:=H.2 0 x y rfl rfl
  refine ⟨E+e,fun i a b ha hb=>?_⟩
  cases i with
  | zero =>
   have h1:x=a:=Option.some.inj ha
   have h2:y=b:=Option.some.inj hb
   subst h1 h2
   rw [Nat.add_comm];exact eqT_le he _
  | succ i=>exact eqT_le (hE i a b ha hb) _
theorem EQ.node {h:Nat->Value} {x y:Value} (h1:kindV (endT h x)=kindV (endT h y)) (h2:namT (endT h x)=namT (endT h y)) (h3:numT (endT h x)=numT (endT h y)) (h4:EQs h (argsV (endT h x)) (argsV (endT h y))):EQ h x y:=by
 obtain ⟨E,hE⟩:=EQs.bound _ _ h4
 exact ⟨E+1,h1,h2,h3,h4.1,hE⟩
theorem EQ.parts {h:Nat->Value} {x y:Value} (H:EQ h x y):kindV (endT h x)=kindV (endT h y)/\namT (endT h x)=namT (endT h y)/\numT (endT h x)=numT (endT h y)/\EQs h (argsV (endT h x)) (argsV (endT h y)):=by
 obtain ⟨e,H⟩:=H
 cases e with
 | zero=>exact H.elim
 | succ e=>exact ⟨H.1,H.2.1,H.2.2.1,H.2.2.2.1,fun i a b ha hb=>⟨e,H.2.2.2.2 i a b ha hb⟩⟩
theorem endT_bd {h:Nat->Value} {i:Nat} {y:Value} (t:Value):endT (bdH h i y) t=if isV i (endT h t)=true then y else endT h t:=by
 by_cases hk:kindV t=2
 ·have e1:endT (bdH h i y) t=bdH h i y (numT t-1).toNat:=by unfold endT;rw [if_pos hk]
  have e2:endT h t=h (numT t-1).toNat:=by unfold endT;rw [if_pos hk]
  rw [e1,e2];rfl
 ·have e1:endT (bdH h i y) t=t:=by unfold endT;rw [if_neg hk]
  have e2:endT h t=t:=by unfold endT;rw [if_neg hk]
  rw [e1,e2,if_neg (by rw [isV_nv hk];decide)]
theorem isV_eq {n i:Nat} {t:Value} (hg:Gt n t) (hv:isV i t=true):t=vr i:=by
 have hk:kindV t=2:=by
  by_cases hk:kindV t=2
  ·exact hk
  ·rw [isV_nv hk] at hv;cases hv
 obtain ⟨j,_,rfl⟩:=hg.var hk
 rw [(isV_vr j i).1 hv]
theorem Ext.bd (h:Nat->Value) (i:Nat) (y:Value):Ext h (bdH h i y):=⟨fun X=>if isV i X=true then y else X,fun t=>endT_bd t,fun X hX=>by show (if isV i X=true then y else X)=X;rw [if_neg (by rw [isV_nv hX];decide)]⟩
theorem Gd.bd {n:Nat} {h:Nat->Value} (H:Gd n h) {i:Nat} {y:Value} (hi:i<n) (hu:h i=vr i) (hy:Gt n y) (hz:endT h y=y) (hne:y≠vr i):Gd n (bdH h i y):=by
 have hY:(∃a,a<n/\y=vr a/\bdH h i y a=vr a)\/kindV y≠2:=by
  by_cases hk:kindV y=2
  ·obtain ⟨a,ha,rfl⟩:=hy.var hk
   rw [endT_vr] at hz
   refine .inl ⟨a,ha,rfl,?_⟩
   show (if isV i (h a)=true then _ else h a)=vr a
   rw [hz,if_neg (fun e=>hne (by rw [(isV_vr a i).1 e]))]
  ·exact .inr hk
 refine ⟨fun j hj=>?_,fun j hj=>?_⟩
 ·show ∃d,GP n d (if isV i (h j)=true then y else h j)
  split
  ·exact hy
  ·exact H.good j hj
 ·show (∃a,a<n/\(if isV i (h j)=true then y else h j)=vr a/\_)\/kindV (if isV i (h j)=true then y else h j)≠2
  by_cases hv:isV i (h j)=true
  ·rw [if_pos hv];exact hY
  ·rw [if_neg hv]
   rcases H.fin j hj with ⟨a,ha,h1,h2⟩|h1
   ·refine .inl ⟨a,ha,h1,?_⟩
    show (if isV i (h a)=true then y else h a)=vr a
    rw [h1] at hv
    rw [h2,if_neg hv]
   ·exact .inr h1
theorem lk_ex {n:Nat} {h:Nat->Value} {i:Nat} {y:Value} (H:Gd n h):∀(f c:Nat) (t:Value),Gt n t->(lkT h ((i:Int)+1) f c t).1=0->exT (bdH h i y) f t
 | 0,c,t,_,h0=>by unfold lkT at h0;cases h0
 | f+1,c,t,hg,h0=>by
  unfold lkT at h0
  by_cases h1:1024<c+1
  ·rw [if_pos h1] at h0;cases h0
  ·rw [if_neg h1] at h0
   by_cases h2:kindV (endT h t)=2/\numT (endT h t)=(i:Int)+1
   ·rw [if_pos h2] at h0;cases h0
   ·rw [if_neg h2] at h0
    have hv:¬ isV i (endT h t)=true:=fun e=>h2 (by rw [isV_eq (H.gt hg).1 e];exact ⟨rfl,rfl⟩)
    intro a ha
    rw [endT_bd,if_neg hv] at ha
    obtain ⟨c',hc⟩:=lkL_all _ _ h0 a ha
    exact lk_ex H f c' a ((H.gt hg).1.part ha) hc
theorem AC.bd {n:Nat} {h:Nat->Value} (H:Gd n h) (hA:AC n h) {i m c:Nat} {y:Value} (hy:Gt n y) (hz:endT h y=y) (hne:y≠vr i) (h0:(lkT h ((i:Int)+1) m c y).1=0):AC n (bdH h i y):=by
 have hY:=lk_ex (y:=y) H m c y hy h0
 have hYe:endT (bdH h i y) y=y:=by
  rw [endT_bd,hz,if_neg]
  exact fun e=>hne (isV_eq hy e)
 have key:∀(e:Nat) (t:Value),Gt n t->exT h e t->exT (bdH h i y) (e+m) t:=fun e=>by
  induction e with
  | zero=>intro t _ hx;exact hx.elim
  | succ e ih =>
   intro t hg hx
   rw [show e+1+m=(e+m)+1 by omega]
   intro a ha
   rw [endT_bd] at ha
   by_cases hv:isV i (endT h t)=true
   ·rw [if_pos hv] at ha
    cases m with
    | zero=>exact hY.elim
    | succ m =>
     have h1:∀a ∈ argsV (endT (bdH h i y) y),exT (bdH h i y) m a:=hY
     rw [hYe] at h1
     rw [show e+(m+1)=m+(e+1) by omega]
     exact exT_le (h1 a ha) _
   ·rw [if_neg hv] at ha
    exact ih a ((H.gt hg).1.part ha) (hx a ha)
 obtain ⟨E,hE⟩:=hA
 exact ⟨E+m,fun j hj=>key E (vr j) (Gt.vr hj) (hE j hj)⟩
end Ty
end Go.Proofs.Ytkflfohoinbenaa
