/- Texts that the claim needs. -/
import Derived.Test.YthfapccopngfhaaDoorQDex26
import Derived.Test.YthfapccopngfhaaDoorQDex23
import Derived.Deep.MidRow
namespace Go.Proofs.YthfapccopngfhaaDoor
open Go.RowKit Rep Dec
set_option linter.unusedVariables false
namespace Dec
theorem cells_heap (g:Nat) (t:TypeId):∀(vs:List Value) (o:Nat) (w:World) (cur:Array Value),w.heap[g]?=some (.cells cur t (0,0))->o+vs.length<=cur.size ->
  (w.setCells g o vs).heap[g]?=some (.cells (cur.toList.take o++vs++cur.toList.drop (o+vs.length)).toArray t (0,0))
 | [],o,w,cur,h,_=>by simpa [World.setCells] using h
 | v :: r,o,w,cur,h,hl=>by
  simp only [List.length_cons] at hl
  have h1:=cells_heap g t r (o+1) (w.setCell ⟨g,o,none⟩ v) (cur.setIfInBounds o v) (heap_setCell_same w g o cur t v h) (by rw [Array.size_setIfInBounds];omega)
  rw [World.setCells,h1,Array.toList_setIfInBounds]
  have hs:o<cur.toList.length:=by rw [Array.length_toList];omega
  have e1:(cur.toList.set o v).take (o+1)=cur.toList.take o++[v]:=by
   rw [List.take_add_one,List.take_set_of_le (Nat.le_refl o),List.getElem?_set_self hs];rfl
  have e2:(cur.toList.set o v).drop (o+1+r.length)=cur.toList.drop (o+1+r.length):=List.drop_set_of_lt (by omega)
  rw [e1,e2]
  simp only [List.length_cons,List.append_assoc,List.cons_append,List.nil_append]
  rw [show o+1+r.length=o+(r.length+1) by omega]
theorem cells_other (g k:Nat) (hk:k≠g):∀(vs:List Value) (o:Nat) (w:World),(w.setCells g o vs).heap[k]?=w.heap[k]?
 | [],_,_=>rfl
 | v :: r,o,w=>by rw [World.setCells,cells_other g k hk r,Below.heap_setCell _ _ _ _ (by exact hk)]
theorem cells_size (g:Nat):∀(vs:List Value) (o:Nat) (w:World),(w.setCells g o vs).heap.size=w.heap.size
 | [],_,_=>rfl
 | v :: r,o,w=>by rw [World.setCells,cells_size g r];simp
theorem cells_but (g:Nat):∀(vs:List Value) (o:Nat) (w:World),But g w (w.setCells g o vs)
 | [],_,w=>But.refl _ _
 | v :: r,o,w=>(But.set g o w v).trans (cells_but g r (o+1) _)
theorem ten_heap {w:World} {b:Nat} {t:TypeId} {cs vs:Array Value} (h:w.heap[b]?=some (.cells cs t (0,0))) (hc:cs.size=10) (hv:vs.size=10):(w.setCells b 0 vs.toList).heap[b]?=some (.cells vs t (0,0)):=by
 rw [cells_heap b t vs.toList 0 w cs h (by simp;omega)]
 have hd:List.drop 10 cs.toList = []:=List.drop_eq_nil_of_le (by simp [hc])
 simp [hv,hd]
structure DI (w u:World):Prop where
 b4:u.heap[w.heap.size]?=some (.cells #[.slice none 0 0,.slice none 0 0,.slice none 0 0,.slice none 0 0,.slice none 0 0,.slice none 0 0,.slice none 0 0,.slice none 0 0,.slice none 0 0,.slice none 0 0] 41 (0,0))
 b5:u.heap[w.heap.size+1]?=some (.cells #[.int .i64 0] 24 (0,0))
 bel:Below w.heap.size w u
def dw (w:World):World:=(w.alloc (.cells #[.slice none 0 0,.slice none 0 0,.slice none 0 0,.slice none 0 0,.slice none 0 0,.slice none 0 0,.slice none 0 0,.slice none 0 0,.slice none 0 0,.slice none 0 0] 41)).alloc (.cells #[.int .i64 0] 24)
theorem DI.start (w:World):DI w (dw w):=by
 have h1:(w.alloc (.cells #[.slice none 0 0,.slice none 0 0,.slice none 0 0,.slice none 0 0,.slice none 0 0,.slice none 0 0,.slice none 0 0,.slice none 0 0,.slice none 0 0,.slice none 0 0] 41)).heap[w.heap.size]?=some (.cells #[.slice none 0 0,.slice none 0 0,.slice none 0 0,.slice none 0 0,.slice none 0 0,.slice none 0 0,.slice none 0 0,.slice none 0 0,.slice none 0 0,.slice none 0 0] 41 (0,0)):=heap_alloc_new' w _ rfl
 have h2:(dw w).heap[w.heap.size+1]?=some (.cells #[.int .i64 0] 24 (0,0)):=heap_alloc_new' _ _ (by simp)
 exact ⟨heap_alloc_of h1,h2,below_go' (new_on' _ _) (new_on' _ _)⟩
theorem DI.on {w u u':World} (h:DI w u) (hb:Below u.heap.size u u'):DI w u' :=
 ⟨by rw [hb.block _ (Array.getElem?_eq_some_iff.1 h.b4).1];exact h.b4,by rw [hb.block _ (Array.getElem?_eq_some_iff.1 h.b5).1];exact h.b5,below_go' h.bel hb⟩
theorem there_of {w:World} {b:Nat} {t:TypeId} {cs:Array Value} (h:w.heap[b]?=some (.cells cs t (0,0))) (hc:cs.size=10):w.there b 0 10:=fun j hj=>by
 refine ⟨?_,?_⟩
 ·unfold World.cell?;rw [h,Nat.zero_add]
  show (cs[j]?).isSome=true
  rw [Array.getElem?_eq_getElem (by omega)];rfl
 ·unfold World.frozen?;rw [h];simp
theorem size41:(Tryd.prog.info? 41).map (·.size)=some 10:=by kernel_rfl
end Dec
theorem dassert_yes (k:Int) (w:World):(Instr.typeAssert (.iface 24 (.int .i64 k)) 20 24 true).run Tryd.prog w=.ok (.tuple #[.int .i64 k,.bool true]) w:=by
 kernel_rfl
set_option maxRecDepth 100000 in
set_option maxHeartbeats 1000000 in
theorem decCatch (p q:Nat) (y:Value) (k:Int) (older:List PanicEntry) (w:World) (cs:Array Value) (hp:w.heap[p]?=some (.cells cs 41 (0,0))) (hc:cs.size=10) (hq:w.cell? ⟨q,0,none⟩=some y) (fq:w.frozen? ⟨q,0,none⟩=false) (hpq:q≠p) (W2:World) (hW2:w.setCells p 0 (#[.slice none 0 0,.slice none 0 0,.slice none 0 0,.slice none 0 0,.slice none 0 0,.slice none 0 0,.slice none 0 0,.slice none 0 0,.slice none 0 0,.slice none 0 0]:Array Value).toList=W2) :
  CallsD Tryd.prog 14 #[.pointer (some ⟨p,0,none⟩),.pointer (some ⟨q,0,none⟩)] (.panicking ({ v:=.iface 24 (.int .i64 k),recovered:=false } :: older)) w fun e u' w' =>
   e=.returned (.tuple #[])/\u'=.panicking ({ v:=.iface 24 (.int .i64 k),recovered:=true } :: older)/\w'=W2.setCell ⟨q,0,none⟩ (.int .i64 k):=by
 have hth:=there_of hp hc
 have hall:(#[.slice none 0 0,.slice none 0 0,.slice none 0 0,.slice none 0 0,.slice none 0 0,.slice none 0 0,.slice none 0 0,.slice none 0 0,.slice none 0 0,.slice none 0 0]:Array Value).all (·.oneCell')=true:=by simp [Value.oneCell']
 have hq':W2.cell? ⟨q,0,none⟩=some y:=by rw [<- hW2,World.cell?_of_block (w:=w) (cells_other p q hpq _ 0 w)];exact hq
 have fq':W2.frozen? ⟨q,0,none⟩=false:=by rw [<- hW2,World.frozen?_of_block (w:=w) (cells_other p q hpq _ 0 w)];exact fq
 have HW2:=hideR hW2
 clear hW2
 refine callsD_of_wpS Tryd.func14 rfl fun c₀ cs hu=>?_
 apply wpS_seq
 apply wpS_region
 simp [wpOpsS,go_sem,recoverD,hu,Tryd.ntmps14,Exit.thenS,dassert_yes]
 apply wpS_seq
 apply wpS_region
 simp [wpOpsS,go_sem,Exit.thenS]
 refine wpS_cond (t:=true) (by simp [Act.eval,Array.replicate]) ?_
 simp only [if_true]
 refine wpS_of_wp ?_
 go_wp2_with (refine wpList_store_mid rfl 41 (.tmp 0) (.tmp 10) rfl p 0 #[.slice none 0 0,.slice none 0 0,.slice none 0 0,.slice none 0 0,.slice none 0 0,.slice none 0 0,.slice none 0 0,.slice none 0 0,.slice none 0 0,.slice none 0 0] (by simp [Act.eval,Array.replicate]) (by simp [Act.eval,Array.replicate]) hth size41 hall ?_;rw [HW2.out])
 simp [bodyPostS,results,Tryd.results14]
theorem decIdle (p q:Nat) (w:World) :
  CallsD Tryd.prog 14 #[.pointer (some ⟨p,0,none⟩),.pointer (some ⟨q,0,none⟩)] .returning w fun e u' w'=>e=.returned (.tuple #[])/\u'=.returning/\w'=w:=by
 refine callsD_of_wpS Tryd.func14 rfl fun c₀ cs hu=>?_
 apply wpS_seq
 apply wpS_region
 simp [wpOpsS,go_sem,recoverD,hu,Tryd.ntmps14,Exit.thenS,xassert_no]
 apply wpS_seq
 apply wpS_region
 simp [wpOpsS,go_sem,Exit.thenS]
 refine wpS_cond (t:=false) (by simp [Act.eval,Array.replicate]) ?_
 simp only [Bool.false_eq_true,if_false]
 refine wpS_of_wp (wp_skip ?_)
 cases c₀
 simp_all [bodyPostS,results,Tryd.results14]
end Go.Proofs.YthfapccopngfhaaDoor

namespace Go.Proofs.YthfapccopngfhaaDoor
open Go.RowKit Rep Dec
set_option linter.unusedVariables false
namespace Dec
def pfx (s:ByteArray):Bool:=decide (8<=s.size) && ((s.extract 0 8).toList == [0,97,115,109,1,0,0,0])
def KeepsB {σ:Type} (p:Nat) (M:σ->(Nat->Value)->Nat->Nat->World->Prop):Prop:=∀st c k n w w',M st c k n w->(∀b,p<b->b<w.heap.size->w'.heap[b]?=w.heap[b]?)->w.heap.size<=w'.heap.size->M st c k n w'
theorem KeepsB.five {σ:Type} {p:Nat} {M:σ->(Nat->Value)->Nat->Nat->World->Prop} (h:KeepsB p M):Keeps5 p M:=fun st c k n w w' hM hb=>h st c k n w w' hM (fun b h1 h2=>hb.block b h2 (by intro e;have:=Option.some.inj e;omega)) hb.size
def DSays {σ:Type} (M:Nat->σ->(Nat->Value)->Nat->Nat->World->Prop) (w:World) (X:R σ) (e:Ending) (w':World):Prop:=Below w.heap.size w w' /\
 match X with
 | .error z=>e=.returned (.tuple #[.agg #[.slice none 0 0,.slice none 0 0,.slice none 0 0,.slice none 0 0,.slice none 0 0,.slice none 0 0,.slice none 0 0,.slice none 0 0,.slice none 0 0,.slice none 0 0],.int .i64 z])
 | .ok (st,_)=>∃p c k n,M p st c k n w'/\e=.returned (.tuple #[.agg #[c 0,c 1,c 2,c 3,c 4,c 5,c 6,c 7,c 8,c 9],.int .i64 0])
theorem cells_of10 {w:World} {b:Nat} {t:TypeId} {v0 v1 v2 v3 v4 v5 v6 v7 v8 v9:Value} (h:w.heap[b]?=some (.cells #[v0,v1,v2,v3,v4,v5,v6,v7,v8,v9] t (0,0))) :
  w.cell? ⟨b,0,none⟩=some v0/\w.cell? ⟨b,1,none⟩=some v1/\w.cell? ⟨b,2,none⟩=some v2/\w.cell? ⟨b,3,none⟩=some v3/\w.cell? ⟨b,4,none⟩=some v4/\w.cell? ⟨b,5,none⟩=some v5/\w.cell? ⟨b,6,none⟩=some v6/\w.cell? ⟨b,7,none⟩=some v7/\w.cell? ⟨b,8,none⟩=some v8/\w.cell? ⟨b,9,none⟩=some v9:=by
 refine ⟨?_,?_,?_,?_,?_,?_,?_,?_,?_,?_⟩<;>(unfold World.cell?;rw [h];rfl)
theorem all_slices {c:Nat->Value} (h:∀j,j<10->∃o n k,c j=.slice o n k):(#[c 0,c 1,c 2,c 3,c 4,c 5,c 6,c 7,c 8,c 9]:Array Value).all (·.oneCell')=true:=by
 have h1:∀j,j<10->(c j).oneCell'=true:=fun j hj=>by obtain ⟨o,n,k,e⟩:=h j hj;rw [e];rfl
 simp [h1]
theorem rs_range {w0 w:World} {p:Nat} {s:ByteArray} {c:Nat->Value} {en k i n:Nat} (h:RS w0 p s c en k i n w):w.rangeAt p 3 [c 0,c 1,c 2,c 3,c 4,c 5,c 6,c 7,c 8,c 9]:=fun j v hv=>by
 have hj:j<10:=by simpa using (List.getElem?_eq_some_iff.1 hv).1
 have hc:j=0\/j=1\/j=2\/j=3\/j=4\/j=5\/j=6\/j=7\/j=8\/j=9:=by omega
 rcases hc with rfl|rfl|rfl|rfl|rfl|rfl|rfl|rfl|rfl|rfl
 all_goals (obtain rfl:=Option.some.inj hv;exact h.cell _ _ rfl)
theorem DI.catch {w u : World} (h : DI w u) (k : Int) : ∃ W3 : World, (CallsD Tryd.prog 14 #[.pointer (some ⟨w.heap.size, 0, none⟩), .pointer (some ⟨w.heap.size + 1, 0, none⟩)] (.panicking (gave k)) u fun e u' w' =>
      e = .returned (.tuple #[]) ∧ u' = .panicking ({ v := .iface 24 (.int .i64 k), recovered := true } :: []) ∧ w' = W3) ∧
      W3.heap[w.heap.size]? = some (.cells #[.slice none 0 0, .slice none 0 0, .slice none 0 0, .slice none 0 0, .slice none 0 0, .slice none 0 0, .slice none 0 0, .slice none 0 0, .slice none 0 0, .slice none 0 0] 41 (0, 0)) ∧ W3.cell? ⟨w.heap.size + 1, 0, none⟩ = some (.int .i64 k) ∧ Below w.heap.size w W3 := by
  have h5 : u.cell? ⟨w.heap.size + 1, 0, none⟩ = some (.int .i64 0) := cell_of (j := 0) h.b5
  have hW := cells_but w.heap.size (#[.slice none 0 0, .slice none 0 0, .slice none 0 0, .slice none 0 0, .slice none 0 0, .slice none 0 0, .slice none 0 0, .slice none 0 0, .slice none 0 0, .slice none 0 0] : Array Value).toList 0 u
  have hb5 : (u.setCells w.heap.size 0 (#[.slice none 0 0, .slice none 0 0, .slice none 0 0, .slice none 0 0, .slice none 0 0, .slice none 0 0, .slice none 0 0, .slice none 0 0, .slice none 0 0, .slice none 0 0] : Array Value).toList).heap[w.heap.size + 1]? = some (.cells #[.int .i64 0] 24 (0, 0)) := by rw [cells_other _ _ (by omega)]; exact h.b5
  have hb4 := ten_heap (vs := #[.slice none 0 0, .slice none 0 0, .slice none 0 0, .slice none 0 0, .slice none 0 0, .slice none 0 0, .slice none 0 0, .slice none 0 0, .slice none 0 0, .slice none 0 0]) h.b4 rfl rfl
  refine ⟨_, decCatch w.heap.size (w.heap.size + 1) _ k [] u _ h.b4 rfl h5 (free_of h.b5) (by omega) _ rfl, ?_, ?_, ?_⟩
  · rw [Below.heap_setCell _ _ _ _ (by show w.heap.size ≠ w.heap.size + 1; omega)]; exact hb4
  · have := heap_setCell_same _ (w.heap.size + 1) 0 _ _ (.int .i64 k) hb5
    unfold World.cell?; rw [this]; rfl
  · have h1 : Below w.heap.size w (u.setCells w.heap.size 0 (#[.slice none 0 0, .slice none 0 0, .slice none 0 0, .slice none 0 0, .slice none 0 0, .slice none 0 0, .slice none 0 0, .slice none 0 0, .slice none 0 0, .slice none 0 0] : Array Value).toList) := h.bel.trans ⟨hW.os, hW.tape, hW.output, hW.size, fun j hj => cells_other _ _ (by omega) _ _ _⟩
    exact h1.setCell (by show w.heap.size ≤ w.heap.size + 1; omega) _
theorem rs_new8 {w3:World} {s:ByteArray} (ha:8<=s.size) (hs:s.size<=262144):RS w3 w3.heap.size s (fun _=>.slice none 0 0) s.size 0 8 0 (w3.alloc (.cells #[.string s,.int .i64 8,.int .i64 s.size,.slice none 0 0,.slice none 0 0,.slice none 0 0,.slice none 0 0,.slice none 0 0,.slice none 0 0,.slice none 0 0,.slice none 0 0,.slice none 0 0,.slice none 0 0,.int .i64 0,.int .i64 0] 48)) :=
 ⟨new_on' _ _,Nat.le_refl _,heap_alloc_new' _ _ rfl,ha,Nat.le_refl _,hs⟩
end Dec
set_option maxHeartbeats 1000000 in
theorem dPfx (s:ByteArray) (w:World) (hs:s.size<=4611686018427387904):Calls Tryd.prog 15 #[.string s,.string { data:=#[0,97,115,109,1,0,0,0] }] w fun e w'=>e=.returned (.bool (pfx s))/\w'=w:=by
 by_cases h8:8<=s.size
 ·have d8:decide ((s.size:Int)>=8)=true:=decide_eq_true (by omega)
  have e:pfx s=((s.extract 0 8).toList == [0,97,115,109,1,0,0,0]):=by unfold pfx;rw [decide_eq_true h8,Bool.true_and]
  rw [e]
  go_enter Tryd.func15,Tryd.ntmps15
  go_wp2
  go_ret
  exact ⟨rfl,rfl⟩
 ·have d8:decide ((s.size:Int)>=8)=false:=decide_eq_false (by omega)
  have e:pfx s=false:=by unfold pfx;rw [decide_eq_false h8,Bool.false_and]
  rw [e]
  go_enter Tryd.func15,Tryd.ntmps15
  go_wp2
  go_ret
  exact ⟨rfl,rfl⟩
set_option maxRecDepth 100000 in
set_option maxHeartbeats 4000000 in
theorem dDecode {σ:Type} {M:Nat->σ->(Nat->Value)->Nat->Nat->World->Prop} {sec:Int->Sec σ} {ok:Int->Bool} {cd fl:σ->Nat} {st0:σ} (s:ByteArray) (w:World) (hs:s.size<=4611686018427387904) (hK:∀p,KeepsB p (M p))
  (hS:∀w0 p id,Below w.heap.size w w0->ok id=true->SecSays w0 p s (M p) (sec id) id)
  (hF:∀p st c k n w,M p st c k n w->(k=cd st/\∃o cap,c 2=.slice o (fl st) cap)/\∀j,j<10->∃o n k,c j=.slice o n k) (h0:∀p w,M p st0 (fun _=>.slice none 0 0) 0 0 w)
  (f:Nat) (X:R σ) (hX:(if 262144<s.size then some (.error 2) else if pfx s=false then some (.error 50) else rsecs sec ok cd fl s s.size f 0 st0 8)=some X) :
  Calls Tryd.prog 8 #[.string s] w (DSays M w X):=by
 have H0:=hideR (DI.start w)
 have hmf:∀(fn:Fn) (first cap:Array Value) (w:World),(Instr.makeFunc fn first cap).run Tryd.prog w=.ok (.func fn first cap) w:=fun _ _ _ _=>rfl
 have HPF:=fun u=>hideR (dPfx s u hs)
 by_cases h1:262144<s.size
 ·rw [if_pos h1] at hX
  obtain rfl:=Option.some.inj hX
  have hd:decide ((s.size:Int)<=262144)=false:=decide_eq_false (by omega)
  clear h1 hX
  go_enter_defers Tryd.func8,Tryd.ntmps8
  go_upto_region 2 with fail
  obtain ⟨wb,hwb⟩:∃wb,wb=dw w:=⟨_,rfl⟩
  rw [<- hwb] at H0
  have hwb':=hwb
  unfold dw at hwb'
  rw [<- hwb']
  clear hwb hwb'
  go_wp2_with fail
  refine (needN _ _).mono ?_
  rintro e u ⟨rfl,rfl⟩
  obtain ⟨W3,hct,k4,k5,kb⟩:=H0.out.catch 2
  obtain ⟨z0,z1,z2,z3,z4,z5,z6,z7,z8,z9⟩:=cells_of10 k4
  have HCT:=hideR hct
  clear hct k4
  go_wp2_with fail
  refine leaves_cons (f:=14) (args:=#[.pointer (some ⟨w.heap.size,0,none⟩),.pointer (some ⟨w.heap.size+1,0,none⟩)]) (by simp) (by simp [go_sem]) ?_
  refine HCT.out.mono ?_
  rintro e u' w'' ⟨rfl,rfl,rfl⟩
  simp [Leaves,settle,results,Tryd.results8,go_sem,z0,z1,z2,z3,z4,z5,z6,z7,z8,z9,k5]
  exact ⟨kb,rfl⟩
 have hd:decide ((s.size:Int)<=262144)=true:=decide_eq_true (by omega)
 rw [if_neg h1] at hX
 by_cases h2:pfx s=false
 ·rw [if_pos h2] at hX
  obtain rfl:=Option.some.inj hX
  rw [h2] at HPF
  clear h1 hX h2
  go_enter_defers Tryd.func8,Tryd.ntmps8
  go_upto_region 2 with fail
  obtain ⟨wb,hwb⟩:∃wb,wb=dw w:=⟨_,rfl⟩
  rw [<- hwb] at H0
  have hwb':=hwb
  unfold dw at hwb'
  rw [<- hwb']
  clear hwb hwb'
  go_wp2_with fail
  refine (needY _ _).mono ?_
  rintro e wb ⟨rfl,rfl⟩
  go_wp2_with fail
  refine (HPF _).out.mono ?_
  rintro e wb ⟨rfl,rfl⟩
  go_wp2_with fail
  refine (needN _ _).mono ?_
  rintro e wb ⟨rfl,rfl⟩
  obtain ⟨W3,hct,k4,k5,kb⟩:=H0.out.catch 50
  obtain ⟨z0,z1,z2,z3,z4,z5,z6,z7,z8,z9⟩:=cells_of10 k4
  have HCT:=hideR hct
  clear hct k4
  go_wp2_with fail
  refine leaves_cons (f:=14) (args:=#[.pointer (some ⟨w.heap.size,0,none⟩),.pointer (some ⟨w.heap.size+1,0,none⟩)]) (by simp) (by simp [go_sem]) ?_
  refine HCT.out.mono ?_
  rintro e u' w'' ⟨rfl,rfl,rfl⟩
  simp [Leaves,settle,results,Tryd.results8,go_sem,z0,z1,z2,z3,z4,z5,z6,z7,z8,z9,k5]
  exact ⟨kb,rfl⟩
 rw [if_neg h2] at hX
 have h2':pfx s=true:=by simpa using h2
 have h8:8<=s.size:=by unfold pfx at h2';rw [Bool.and_eq_true] at h2';exact of_decide_eq_true h2'.1
 rw [h2'] at HPF
 have HRS:=fun (w3:World)=>hideR (rs_new8 (w3:=w3) (s:=s) h8 (by omega))
 have HX:=fun (w3:World) (hb:Below w.heap.size w w3)=>hideR (dSections (hK w3.heap.size).five (fun id hid=>hS w3 w3.heap.size id hb hid) (fun st c k n w hM=>(hF _ st c k n w hM).1) st0 _ s.size 0 8 0 f _ (HRS w3).out (h0 _ _) X hX)
 clear h1 h2 h2' hX
 cases X with
 | error z =>
  go_enter_defers Tryd.func8,Tryd.ntmps8
  go_upto_region 2 with fail
  obtain ⟨wb,hwb⟩:∃wb,wb=dw w:=⟨_,rfl⟩
  rw [<- hwb] at H0
  have hwb':=hwb
  unfold dw at hwb'
  rw [<- hwb']
  clear hwb hwb'
  go_wp2_with fail
  refine (needY _ _).mono ?_
  rintro e wb ⟨rfl,rfl⟩
  go_wp2_with fail
  refine (HPF _).out.mono ?_
  rintro e wb ⟨rfl,rfl⟩
  go_wp2_with fail
  refine (needY _ _).mono ?_
  rintro e wb ⟨rfl,rfl⟩
  have HC:=HX wb H0.out.bel
  clear HX HRS
  go_wp2_with fail
  refine HC.out.mono ?_
  rintro e u ⟨rfl,hb⟩
  have H1:=hideR (H0.out.on hb)
  clear hb HC
  obtain ⟨W3,hct,k4,k5,kb⟩:=H1.out.catch z
  obtain ⟨z0,z1,z2,z3,z4,z5,z6,z7,z8,z9⟩:=cells_of10 k4
  have HCT:=hideR hct
  clear hct k4
  go_wp2_with fail
  refine leaves_cons (f:=14) (args:=#[.pointer (some ⟨w.heap.size,0,none⟩),.pointer (some ⟨w.heap.size+1,0,none⟩)]) (by simp) (by simp [go_sem]) ?_
  refine HCT.out.mono ?_
  rintro e u' w'' ⟨rfl,rfl,rfl⟩
  simp [Leaves,settle,results,Tryd.results8,go_sem,z0,z1,z2,z3,z4,z5,z6,z7,z8,z9,k5]
  exact ⟨kb,rfl⟩
 | ok v =>
  obtain ⟨st,j⟩:=v
  go_enter_defers Tryd.func8,Tryd.ntmps8
  go_upto_region 2 with fail
  obtain ⟨wb,hwb⟩:∃wb,wb=dw w:=⟨_,rfl⟩
  rw [<- hwb] at H0
  have hwb':=hwb
  unfold dw at hwb'
  rw [<- hwb']
  clear hwb hwb'
  go_wp2_with fail
  refine (needY _ _).mono ?_
  rintro e wb ⟨rfl,rfl⟩
  go_wp2_with fail
  refine (HPF _).out.mono ?_
  rintro e wb ⟨rfl,rfl⟩
  go_wp2_with fail
  refine (needY _ _).mono ?_
  rintro e wb ⟨rfl,rfl⟩
  have HC:=HX wb H0.out.bel
  clear HX HRS
  go_wp2_with fail
  refine HC.out.mono ?_
  rintro e u ⟨rfl,⟨c,k,n,hr,hM⟩,hbut⟩
  have H1:=hideR (H0.out.on hr.below)
  have hsl:=(hF _ _ _ _ _ _ hM).2
  have hall:(#[c 0,c 1,c 2,c 3,c 4,c 5,c 6,c 7,c 8,c 9]:Array Value).all (·.oneCell')=true:=all_slices hsl
  have hrange:u.rangeAt wb.heap.size 3 [c 0,c 1,c 2,c 3,c 4,c 5,c 6,c 7,c 8,c 9]:=rs_range hr
  have hlt:w.heap.size+1<wb.heap.size:=(Array.getElem?_eq_some_iff.1 H0.out.b5).1
  have hth:u.there w.heap.size 0 10:=there_of H1.out.b4 rfl
  obtain ⟨W2,hW2⟩:∃W2,u.setCells w.heap.size 0 (#[c 0,c 1,c 2,c 3,c 4,c 5,c 6,c 7,c 8,c 9]:Array Value).toList=W2:=⟨_,rfl⟩
  have g4:W2.heap[w.heap.size]?=some (.cells #[c 0,c 1,c 2,c 3,c 4,c 5,c 6,c 7,c 8,c 9] 41 (0,0)):=by rw [<- hW2];exact ten_heap H1.out.b4 rfl rfl
  have g5:W2.heap[w.heap.size+1]?=some (.cells #[.int .i64 0] 24 (0,0)):=by rw [<- hW2,cells_other _ _ (by omega)];exact H1.out.b5
  have gB:Below w.heap.size w W2:=by
   have hW:=cells_but w.heap.size (#[c 0,c 1,c 2,c 3,c 4,c 5,c 6,c 7,c 8,c 9]:Array Value).toList 0 u
   rw [<- hW2]
   exact H1.out.bel.trans ⟨hW.os,hW.tape,hW.output,hW.size,fun j hj=>cells_other _ _ (by omega) _ _ _⟩
  have gM:M wb.heap.size st c k n (W2.setCell ⟨w.heap.size+1,0,none⟩ (.int .i64 0)):=hK _ _ _ _ _ _ _ hM (fun b h1 h2=>by rw [Below.heap_setCell _ _ _ _ (by show b≠w.heap.size+1;omega),<- hW2,cells_other _ _ (by omega)]) (by rw [<- hW2];simp [cells_size])
  have gc5:W2.cell? ⟨w.heap.size+1,0,none⟩=some (.int .i64 0):=cell_of (j:=0) g5
  have gf5:W2.frozen? ⟨w.heap.size+1,0,none⟩=false:=free_of (j:=0) g5
  have k4:(W2.setCell ⟨w.heap.size+1,0,none⟩ (.int .i64 0)).heap[w.heap.size]?=some (.cells #[c 0,c 1,c 2,c 3,c 4,c 5,c 6,c 7,c 8,c 9] 41 (0,0)):=by rw [Below.heap_setCell _ _ _ _ (by show w.heap.size≠w.heap.size+1;omega)];exact g4
  have k5:(W2.setCell ⟨w.heap.size+1,0,none⟩ (.int .i64 0)).cell? ⟨w.heap.size+1,0,none⟩=some (.int .i64 0):=by
   have:=heap_setCell_same W2 (w.heap.size+1) 0 _ _ (.int .i64 0) g5
   unfold World.cell?;rw [this];rfl
  obtain ⟨z0,z1,z2,z3,z4,z5,z6,z7,z8,z9⟩:=cells_of10 k4
  have HGM:=hideR (And.intro gM (gB.setCell (p:=⟨w.heap.size+1,0,none⟩) (by show w.heap.size<=w.heap.size+1;omega) (.int .i64 0)))
  have HW2:=hideR hW2
  have HTH:=hideR hth
  have HRA:=hideR hrange
  have HALL:=hideR hall
  clear hW2 g4 g5 gB gM k4 hth hrange hall hsl hr hM hbut HC
  go_wp2_with (first|(refine wpList_load_mid rfl 41 (.tmp 22) rfl wb.heap.size 3 rfl [c 0,c 1,c 2,c 3,c 4,c 5,c 6,c 7,c 8,c 9] _ HRA.out Tryd.underlying41 rfl size41 ?_)|(refine wpList_store_mid rfl 41 (.tmp 2) (.tmp 23) rfl w.heap.size 0 #[c 0,c 1,c 2,c 3,c 4,c 5,c 6,c 7,c 8,c 9] rfl rfl HTH.out size41 HALL.out ?_;rw [HW2.out]))
  refine leaves_cons (f:=14) (args:=#[.pointer (some ⟨w.heap.size,0,none⟩),.pointer (some ⟨w.heap.size+1,0,none⟩)]) (by simp) (by simp [go_sem]) ?_
  refine (decIdle w.heap.size (w.heap.size+1) _).mono ?_
  rintro e u' w'' ⟨rfl,rfl,rfl⟩
  simp [Leaves,settle,results,Tryd.results8,go_sem,z0,z1,z2,z3,z4,z5,z6,z7,z8,z9,k5]
  exact ⟨HGM.out.2,_,c,k,n,HGM.out.1,rfl⟩
end Go.Proofs.YthfapccopngfhaaDoor

