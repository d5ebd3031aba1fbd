/- Texts that the claim needs. -/
import Derived.Test.YtiailkiepndliaaGreatDoorQDWi15
import Derived.Deep.MidRow
namespace Go.Proofs.YtiailkiepndliaaGreatDoor
open Go.RowKit Rep Dec
set_option linter.unusedVariables false
namespace Dec
structure EI (w u:World):Prop where
 b4:u.heap[w.heap.size]?=some (.cells #[.slice none 0 0] 22 (0,0))
 b5:u.heap[w.heap.size+1]?=some (.cells #[.int .i64 0] 3 (0,0))
 b6:u.heap[w.heap.size+2]?=some (.cells #[.int .i64 0] 38 (0,0))
 bel:Below w.heap.size w u
def ew (w:World):World:=((w.alloc (.cells #[.slice none 0 0] 22)).alloc (.cells #[.int .i64 0] 3)).alloc (.cells #[.int .i64 0] 38)
theorem EI.start (w:World):EI w (ew w):=by
 have h1:(w.alloc (.cells #[.slice none 0 0] 22)).heap[w.heap.size]?=some (.cells #[.slice none 0 0] 22 (0,0)):=heap_alloc_new' w _ rfl
 have h2:((w.alloc (.cells #[.slice none 0 0] 22)).alloc (.cells #[.int .i64 0] 3)).heap[w.heap.size+1]?=some (.cells #[.int .i64 0] 3 (0,0)):=heap_alloc_new' _ _ (by simp)
 have h3:(ew w).heap[w.heap.size+2]?=some (.cells #[.int .i64 0] 38 (0,0)):=heap_alloc_new' _ _ (by simp)
 exact ⟨heap_alloc_of (heap_alloc_of h1),heap_alloc_of h2,h3,below_go' (below_go' (new_on' _ _) (new_on' _ _)) (new_on' _ _)⟩
theorem EI.on {w u u':World} (h:EI w u) (hb:Below u.heap.size u u'):EI w u' :=
 ⟨by rw [hb.block _ (Array.getElem?_eq_some_iff.1 h.b4).1];exact h.b4,by rw [hb.block _ (Array.getElem?_eq_some_iff.1 h.b5).1];exact h.b5,by rw [hb.block _ (Array.getElem?_eq_some_iff.1 h.b6).1];exact h.b6,below_go' h.bel hb⟩
def e3 (w u:World) (v y x:Value):World:=((u.setCell ⟨w.heap.size,0,none⟩ v).setCell ⟨w.heap.size+1,0,none⟩ y).setCell ⟨w.heap.size+2,0,none⟩ x
theorem EI.set {w u:World} (h:EI w u) (v y x:Value):(e3 w u v y x).cell? ⟨w.heap.size,0,none⟩=some v/\(e3 w u v y x).cell? ⟨w.heap.size+1,0,none⟩=some y/\(e3 w u v y x).cell? ⟨w.heap.size+2,0,none⟩=some x/\Below w.heap.size w (e3 w u v y x):=by
 have a4:=heap_setCell_same u w.heap.size 0 _ _ v h.b4
 have a5:=heap_setCell_same (u.setCell ⟨w.heap.size,0,none⟩ v) (w.heap.size+1) 0 _ _ y (by rw [Below.heap_setCell _ _ _ _ (by show w.heap.size+1≠w.heap.size;omega)];exact h.b5)
 have a6:=heap_setCell_same ((u.setCell ⟨w.heap.size,0,none⟩ v).setCell ⟨w.heap.size+1,0,none⟩ y) (w.heap.size+2) 0 _ _ x (by rw [Below.heap_setCell _ _ _ _ (by show w.heap.size+2≠w.heap.size+1;omega),Below.heap_setCell _ _ _ _ (by show w.heap.size+2≠w.heap.size;omega)];exact h.b6)
 refine ⟨?_,?_,?_,((h.bel.setCell (Nat.le_refl _) v).setCell (by show w.heap.size<=w.heap.size+1;omega) y).setCell (by show w.heap.size<=w.heap.size+2;omega) x⟩
 ·unfold e3
  rw [cell_oth (by show w.heap.size≠w.heap.size+2;omega),cell_oth (by show w.heap.size≠w.heap.size+1;omega)]
  unfold World.cell?;rw [a4];rfl
 ·unfold e3
  rw [cell_oth (by show w.heap.size+1≠w.heap.size+2;omega)]
  unfold World.cell?;rw [a5];rfl
 ·unfold e3
  unfold World.cell?;rw [a6];rfl
theorem EI.catch {w u : World} (h : EI w u) (k : Int) : CallsD Tryz.prog 16 #[.pointer (some ⟨w.heap.size, 0, none⟩), .pointer (some ⟨w.heap.size + 1, 0, none⟩), .pointer (some ⟨w.heap.size + 2, 0, none⟩)] (.panicking (gave k)) u fun e u' w' =>
      e = .returned (.tuple #[]) ∧ u' = .panicking ({ v := .iface 38 (.int .i64 k), recovered := true } :: []) ∧ w' = e3 w u (.slice none 0 0) (.int .i64 0) (.int .i64 k) :=
  exprCatch w.heap.size (w.heap.size + 1) (w.heap.size + 2) _ _ _ k [] u (cell_of h.b4) (cell_of h.b5) (cell_of h.b6) (free_of h.b4) (free_of h.b5) (free_of h.b6) (by omega) (by omega) (by omega)
theorem x_end {w t:World} {y4:Value} (k4:t.heap[w.heap.size]?=some (.cells #[y4] 22 (0,0))) (k5:t.heap[w.heap.size+1]?=some (.cells #[.int .i64 0] 3 (0,0))) (k6:t.heap[w.heap.size+1+1]?=some (.cells #[.int .i64 0] 38 (0,0))) (v y x:Value) :
  ((((t.setCell ⟨w.heap.size,0,none⟩ v).setCell ⟨w.heap.size+1,0,none⟩ y).setCell ⟨w.heap.size+1+1,0,none⟩ x).drew).cell? ⟨w.heap.size,0,none⟩=some v /\
  ((((t.setCell ⟨w.heap.size,0,none⟩ v).setCell ⟨w.heap.size+1,0,none⟩ y).setCell ⟨w.heap.size+1+1,0,none⟩ x).drew).cell? ⟨w.heap.size+1,0,none⟩=some y /\
  ((((t.setCell ⟨w.heap.size,0,none⟩ v).setCell ⟨w.heap.size+1,0,none⟩ y).setCell ⟨w.heap.size+1+1,0,none⟩ x).drew).cell? ⟨w.heap.size+1+1,0,none⟩=some x /\
  ∀k,w.heap.size+2<k->((((t.setCell ⟨w.heap.size,0,none⟩ v).setCell ⟨w.heap.size+1,0,none⟩ y).setCell ⟨w.heap.size+1+1,0,none⟩ x).drew).heap[k]?=t.heap[k]?:=by
 have a4:=heap_setCell_same t w.heap.size 0 _ _ v k4
 have a5:=heap_setCell_same (t.setCell ⟨w.heap.size,0,none⟩ v) (w.heap.size+1) 0 _ _ y (by rw [Below.heap_setCell _ _ _ _ (by show w.heap.size+1≠w.heap.size;omega)];exact k5)
 have a6:=heap_setCell_same ((t.setCell ⟨w.heap.size,0,none⟩ v).setCell ⟨w.heap.size+1,0,none⟩ y) (w.heap.size+1+1) 0 _ _ x (by rw [Below.heap_setCell _ _ _ _ (by show w.heap.size+1+1≠w.heap.size+1;omega),Below.heap_setCell _ _ _ _ (by show w.heap.size+1+1≠w.heap.size;omega)];exact k6)
 refine ⟨?_,?_,?_,fun k hk=>?_⟩
 ·show (((t.setCell ⟨w.heap.size,0,none⟩ v).setCell ⟨w.heap.size+1,0,none⟩ y).setCell ⟨w.heap.size+1+1,0,none⟩ x).cell? ⟨w.heap.size,0,none⟩=some v
  rw [cell_oth (by show w.heap.size≠w.heap.size+1+1;omega),cell_oth (by show w.heap.size≠w.heap.size+1;omega)]
  unfold World.cell?;rw [a4];rfl
 ·show (((t.setCell ⟨w.heap.size,0,none⟩ v).setCell ⟨w.heap.size+1,0,none⟩ y).setCell ⟨w.heap.size+1+1,0,none⟩ x).cell? ⟨w.heap.size+1,0,none⟩=some y
  rw [cell_oth (by show w.heap.size+1≠w.heap.size+1+1;omega)]
  unfold World.cell?;rw [a5];rfl
 ·show (((t.setCell ⟨w.heap.size,0,none⟩ v).setCell ⟨w.heap.size+1,0,none⟩ y).setCell ⟨w.heap.size+1+1,0,none⟩ x).cell? ⟨w.heap.size+1+1,0,none⟩=some x
  unfold World.cell?;rw [a6];rfl
 ·show (((t.setCell ⟨w.heap.size,0,none⟩ v).setCell ⟨w.heap.size+1,0,none⟩ y).setCell ⟨w.heap.size+1+1,0,none⟩ x).heap[k]?=t.heap[k]?
  rw [Below.heap_setCell _ _ _ _ (by show k≠w.heap.size+1+1;omega),Below.heap_setCell _ _ _ _ (by show k≠w.heap.size+1;omega),Below.heap_setCell _ _ _ _ (by show k≠w.heap.size;omega)]
theorem rs_new {w3:World} {s:ByteArray} {a:Nat} (ha:a<=s.size) (hs:s.size<=262144):RS w3 w3.heap.size s (fun _=>.slice none 0 0) s.size 0 a 0 (w3.alloc (.cells #[.string s,.int .i64 a,.int .i64 s.size,.slice none 0 0,.slice none 0 0,.slice none 0 0,.slice none 0 0,.slice none 0 0,.slice none 0 0,.slice none 0 0,.slice none 0 0,.slice none 0 0,.slice none 0 0,.int .i64 0,.int .i64 0] 70)) :=
 ⟨new_on' _ _,Nat.le_refl _,heap_alloc_new' _ _ rfl,ha,Nat.le_refl _,hs⟩
end Dec
set_option maxRecDepth 100000 in
set_option maxHeartbeats 8000000 in
theorem dExpr (s:ByteArray) (a:Int) (w:World) (hs:s.size<=4611686018427387904):Calls Tryz.prog 8 #[.string s,.int .i64 a] w (XSays s a w):=by
 have H0:=hideR (EI.start w)
 have hmf:∀(fn:Fn) (first cap:Array Value) (w:World),(Instr.makeFunc fn first cap).run Tryz.prog w=.ok (.func fn first cap) w:=fun _ _ _ _=>rfl
 by_cases h1:262144<s.size
 ·have e:xE s a=.error 2:=by unfold xE;rw [if_pos h1]
  have hd:decide ((s.size:Int)<=262144)=false:=decide_eq_false (by omega)
  unfold XSays
  rw [e]
  clear e h1
  go_enter_defers Tryz.func8,Tryz.ntmps8
  go_upto_region 2 with fail
  obtain ⟨wb,hwb⟩:∃wb,wb=ew w:=⟨_,rfl⟩
  rw [<- hwb] at H0
  have hwb':=hwb
  unfold ew at hwb'
  rw [<- hwb']
  clear hwb hwb'
  go_wp2_with fail
  refine (needN _ _).mono ?_
  rintro e u ⟨rfl,rfl⟩
  obtain ⟨z4,z5,z6,zb⟩:=H0.out.set (.slice none 0 0) (.int .i64 0) (.int .i64 2)
  go_wp2_with fail
  refine leaves_cons (f:=16) (args:=#[.pointer (some ⟨w.heap.size,0,none⟩),.pointer (some ⟨w.heap.size+1,0,none⟩),.pointer (some ⟨w.heap.size+2,0,none⟩)]) (by simp) (by simp [go_sem]) ?_
  refine (H0.out.catch 2).mono ?_
  rintro e u' w'' ⟨rfl,rfl,rfl⟩
  simp [Leaves,settle,results,Tryz.results8,go_sem,z4,z5,z6]
  exact zb
 have hd:decide ((s.size:Int)<=262144)=true:=decide_eq_true (by omega)
 by_cases h2:a<0
 ·have e:xE s a=.error 1:=by unfold xE;rw [if_neg h1,if_neg (by omega)]
  have q1:decide ((0:Int)<=a)=false:=decide_eq_false (by omega)
  unfold XSays
  rw [e]
  clear e h1 h2
  go_enter_defers Tryz.func8,Tryz.ntmps8
  go_upto_region 2 with fail
  obtain ⟨wb,hwb⟩:∃wb,wb=ew w:=⟨_,rfl⟩
  rw [<- hwb] at H0
  have hwb':=hwb
  unfold ew at hwb'
  rw [<- hwb']
  clear hwb hwb'
  go_wp2_with fail
  refine (needY _ _).mono ?_
  rintro e wb ⟨rfl,rfl⟩
  go_wp2_with fail
  refine (needN _ _).mono ?_
  rintro e wb ⟨rfl,rfl⟩
  obtain ⟨z4,z5,z6,zb⟩:=H0.out.set (.slice none 0 0) (.int .i64 0) (.int .i64 1)
  go_wp2_with fail
  refine leaves_cons (f:=16) (args:=#[.pointer (some ⟨w.heap.size,0,none⟩),.pointer (some ⟨w.heap.size+1,0,none⟩),.pointer (some ⟨w.heap.size+2,0,none⟩)]) (by simp) (by simp [go_sem]) ?_
  refine (H0.out.catch 1).mono ?_
  rintro e u' w'' ⟨rfl,rfl,rfl⟩
  simp [Leaves,settle,results,Tryz.results8,go_sem,z4,z5,z6]
  exact zb
 have q1:decide ((0:Int)<=a)=true:=decide_eq_true (by omega)
 by_cases h3:(s.size:Int)<a
 ·have e:xE s a=.error 1:=by unfold xE;rw [if_neg h1,if_neg (by omega)]
  have q2:decide (a<=(s.size:Int))=false:=decide_eq_false (by omega)
  unfold XSays
  rw [e]
  clear e h1 h2 h3
  go_enter_defers Tryz.func8,Tryz.ntmps8
  go_upto_region 2 with fail
  obtain ⟨wb,hwb⟩:∃wb,wb=ew w:=⟨_,rfl⟩
  rw [<- hwb] at H0
  have hwb':=hwb
  unfold ew at hwb'
  rw [<- hwb']
  clear hwb hwb'
  go_wp2_with fail
  refine (needY _ _).mono ?_
  rintro e wb ⟨rfl,rfl⟩
  go_wp2_with fail
  refine (needN _ _).mono ?_
  rintro e wb ⟨rfl,rfl⟩
  obtain ⟨z4,z5,z6,zb⟩:=H0.out.set (.slice none 0 0) (.int .i64 0) (.int .i64 1)
  go_wp2_with fail
  refine leaves_cons (f:=16) (args:=#[.pointer (some ⟨w.heap.size,0,none⟩),.pointer (some ⟨w.heap.size+1,0,none⟩),.pointer (some ⟨w.heap.size+2,0,none⟩)]) (by simp) (by simp [go_sem]) ?_
  refine (H0.out.catch 1).mono ?_
  rintro e u' w'' ⟨rfl,rfl,rfl⟩
  simp [Leaves,settle,results,Tryz.results8,go_sem,z4,z5,z6]
  exact zb
 have q2:decide (a<=(s.size:Int))=true:=decide_eq_true (by omega)
 obtain ⟨b,rfl⟩:∃b:Nat,a=(b:Int):=⟨a.toNat,by omega⟩
 have q3:decide (b<=s.size)=true:=decide_eq_true (by omega)
 clear q2 q1
 have e:xE s b=rexpr s s.size b 0:=by unfold xE;rw [if_neg h1,if_pos (by omega)];rfl
 unfold XSays
 rw [e]
 have HRS:=fun (w3:World)=>hideR (rs_new (w3:=w3) (s:=s) (a:=b) (by omega) (by omega))
 have HX:=fun (w3:World)=>hideR (dExpression w3 w3.heap.size s (fun _=>.slice none 0 0) s.size 0 b 0 _ (HRS w3).out (by omega))
 clear e h1 h2 h3 hs
 cases hx:rexpr s s.size b 0 with
 | error z =>
  simp only [hx] at HX
  clear hx
  go_enter_defers Tryz.func8,Tryz.ntmps8
  go_upto_region 2 with fail
  obtain ⟨wb,hwb⟩:∃wb,wb=ew w:=⟨_,rfl⟩
  rw [<- hwb] at H0
  have hwb':=hwb
  unfold ew at hwb'
  rw [<- hwb']
  clear hwb hwb'
  go_wp2_with fail
  refine (needY _ _).mono ?_
  rintro e wb ⟨rfl,rfl⟩
  go_wp2_with fail
  refine (needY _ _).mono ?_
  rintro e wb ⟨rfl,rfl⟩
  have HC:=HX wb
  clear HX HRS
  go_wp2_with fail
  refine HC.out.mono ?_
  rintro e u ⟨rfl,hb⟩
  have H1:=hideR (H0.out.on hb)
  clear hb HC
  obtain ⟨z4,z5,z6,zb⟩:=H1.out.set (.slice none 0 0) (.int .i64 0) (.int .i64 z)
  go_wp2_with fail
  refine leaves_cons (f:=16) (args:=#[.pointer (some ⟨w.heap.size,0,none⟩),.pointer (some ⟨w.heap.size+1,0,none⟩),.pointer (some ⟨w.heap.size+2,0,none⟩)]) (by simp) (by simp [go_sem]) ?_
  refine (H1.out.catch z).mono ?_
  rintro e u' w'' ⟨rfl,rfl,rfl⟩
  simp [Leaves,settle,results,Tryz.results8,go_sem,z4,z5,z6]
  exact zb
 | ok v =>
  obtain ⟨l,j,m⟩:=v
  simp only [hx] at HX
  clear hx
  go_enter_defers Tryz.func8,Tryz.ntmps8
  go_upto_region 2 with fail
  obtain ⟨wb,hwb⟩:∃wb,wb=ew w:=⟨_,rfl⟩
  rw [<- hwb] at H0
  have hwb':=hwb
  unfold ew at hwb'
  rw [<- hwb']
  clear hwb hwb'
  go_wp2_with fail
  refine (needY _ _).mono ?_
  rintro e wb ⟨rfl,rfl⟩
  go_wp2_with fail
  refine (needY _ _).mono ?_
  rintro e wb ⟨rfl,rfl⟩
  have HC:=HX wb
  clear HX HRS
  go_wp2_with fail
  refine HC.out.mono ?_
  rintro e u ⟨⟨v,rfl,o,nn,kk,rfl,hA⟩,h1,h2⟩
  have H1:=hideR (H0.out.on h1.below)
  have HR1:=hideR h1
  have HA:=hideR hA
  have g4:u.cell? ⟨w.heap.size,0,none⟩=some (.slice none 0 0):=cell_of H1.out.b4
  have f4:u.frozen? ⟨w.heap.size,0,none⟩=false:=free_of H1.out.b4
  clear h1 h2 hA HC
  go_upto_region 6 with fail
  have hlt:w.heap.size+2<wb.heap.size:=(Array.getElem?_eq_some_iff.1 H0.out.b6).1
  obtain ⟨t1,ht1⟩:∃t1,t1=u.setCell ⟨w.heap.size,0,none⟩ (.slice o nn kk):=⟨_,rfl⟩
  have k4:t1.heap[w.heap.size]?=some (.cells #[.slice o nn kk] 22 (0,0)):=by rw [ht1];exact heap_setCell_same u w.heap.size 0 _ _ _ H1.out.b4
  have k5:t1.heap[w.heap.size+1]?=some (.cells #[.int .i64 0] 3 (0,0)):=by rw [ht1,Below.heap_setCell _ _ _ _ (by show w.heap.size+1≠w.heap.size;omega)];exact H1.out.b5
  have k6:t1.heap[w.heap.size+1+1]?=some (.cells #[.int .i64 0] 38 (0,0)):=by rw [ht1,Below.heap_setCell _ _ _ _ (by show w.heap.size+2≠w.heap.size;omega)];exact H1.out.b6
  have HRT:Hid (RS wb wb.heap.size s (fun _=>.slice none 0 0) s.size 0 j m u):=HR1
  have kp:t1.cell? ⟨wb.heap.size,1,none⟩=some (.int .i64 j):=by rw [ht1,cell_oth (by show wb.heap.size≠w.heap.size;omega)];exact HR1.out.cell 1 _ rfl
  have HE1:=hideR ht1
  have HK:Hid (t1.heap[w.heap.size]?=some (.cells #[.slice o nn kk] 22 (0,0))/\t1.heap[w.heap.size+1]?=some (.cells #[.int .i64 0] 3 (0,0))/\t1.heap[w.heap.size+1+1]?=some (.cells #[.int .i64 0] 38 (0,0))/\w.heap.size+2<wb.heap.size):=hideR ⟨k4,k5,k6,hlt⟩
  have c4:=cell_of (j:=0) k4
  have c5:=cell_of (j:=0) k5
  have c6:=cell_of (j:=0) k6
  have p4:=free_of (j:=0) k4
  have p5:=free_of (j:=0) k5
  have p6:=free_of (j:=0) k6
  rw [<- ht1]
  clear ht1 g4 f4 k4 k5 k6 hlt
  go_region
  obtain ⟨w9,hw9⟩:∃w9,w9=(((t1.setCell ⟨w.heap.size,0,none⟩ (.slice o nn kk)).setCell ⟨w.heap.size+1,0,none⟩ (.int .i64 j)).setCell ⟨w.heap.size+1+1,0,none⟩ (.int .i64 0)).drew:=⟨_,rfl⟩
  have HW9:=hideR (x_end HK.out.1 HK.out.2.1 HK.out.2.2.1 (.slice o nn kk) (.int .i64 j) (.int .i64 0))
  rw [<- hw9] at HW9 ⊢
  obtain ⟨z4,z5,z6,zk⟩:=HW9.out
  have HZK:=hideR zk
  have HB9:Hid (Below w.heap.size w w9):=hideR (by
   rw [hw9,HE1.out]
   exact ((((H1.out.bel.setCell (Nat.le_refl _) _).setCell (Nat.le_refl _) _).setCell (by show w.heap.size<=w.heap.size+1;omega) _).setCell (by show w.heap.size<=w.heap.size+1+1;omega) _).drew)
  have HA9:Hid (At w9 81 (.slice o nn kk) l):=hideR (AtS.at 81 _ _ (AtS.keep (S':=fun _=>True) (fun k hk=>⟨trivial,by
   have h1:=hk.1
   have h2:=HK.out.2.2.2
   have h3:wb.heap.size<(wb.alloc (.cells #[.string s,.int .i64 b,.int .i64 s.size,.slice none 0 0,.slice none 0 0,.slice none 0 0,.slice none 0 0,.slice none 0 0,.slice none 0 0,.slice none 0 0,.slice none 0 0,.slice none 0 0,.slice none 0 0,.int .i64 0,.int .i64 0] 70)).heap.size:=by simp
   rw [HZK.out k (by omega),HE1.out,Below.heap_setCell _ _ _ _ (by show k≠w.heap.size;omega)]⟩) 81 _ _ HA.out))
  clear zk hw9 c4 c5 c6 p4 p5 p6 kp HW9
  go_wp2_with fail
  refine leaves_cons (f:=16) (args:=#[.pointer (some ⟨w.heap.size,0,none⟩),.pointer (some ⟨w.heap.size+1,0,none⟩),.pointer (some ⟨w.heap.size+1+1,0,none⟩)]) (by simp) (by simp [go_sem]) ?_
  refine (exprIdle w.heap.size (w.heap.size+1) (w.heap.size+1+1) _).mono ?_
  rintro e u' w'' ⟨rfl,rfl,rfl⟩
  simp [Leaves,settle,results,Tryz.results8,go_sem,z4,z5,z6]
  exact ⟨HB9.out,o,nn,kk,⟨rfl,rfl,rfl⟩,HA9.out⟩
end Go.Proofs.YtiailkiepndliaaGreatDoor

namespace Go.Proofs.YtiailkiepndliaaGreatDoor
open Go.RowKit Rep Dec
set_option linter.unusedVariables false
namespace Dec
theorem cells_heap (g:Nat) (t:TypeId):∀(vs:List Value) (o:Nat) (w:World) (cur:Array Value),w.heap[g]?=some (.cells cur t (0,0))->o+vs.length<=cur.size ->
  (w.setCells g o vs).heap[g]?=some (.cells (cur.toList.take o++vs++cur.toList.drop (o+vs.length)).toArray t (0,0))
 | [],o,w,cur,h,_=>by simpa [World.setCells] using h
 | v :: r,o,w,cur,h,hl=>by
  simp only [List.length_cons] at hl
  have h1:=cells_heap g t r (o+1) (w.setCell ⟨g,o,none⟩ v) (cur.setIfInBounds o v) (heap_setCell_same w g o cur t v h) (by rw [Array.size_setIfInBounds];omega)
  rw [World.setCells,h1,Array.toList_setIfInBounds]
  have hs:o<cur.toList.length:=by rw [Array.length_toList];omega
  have e1:(cur.toList.set o v).take (o+1)=cur.toList.take o++[v]:=by
   rw [List.take_add_one,List.take_set_of_le (Nat.le_refl o),List.getElem?_set_self hs];rfl
  have e2:(cur.toList.set o v).drop (o+1+r.length)=cur.toList.drop (o+1+r.length):=List.drop_set_of_lt (by omega)
  rw [e1,e2]
  simp only [List.length_cons,List.append_assoc,List.cons_append,List.nil_append]
  rw [show o+1+r.length=o+(r.length+1) by omega]
theorem cells_other (g k:Nat) (hk:k≠g):∀(vs:List Value) (o:Nat) (w:World),(w.setCells g o vs).heap[k]?=w.heap[k]?
 | [],_,_=>rfl
 | v :: r,o,w=>by rw [World.setCells,cells_other g k hk r,Below.heap_setCell _ _ _ _ (by exact hk)]
theorem cells_size (g:Nat):∀(vs:List Value) (o:Nat) (w:World),(w.setCells g o vs).heap.size=w.heap.size
 | [],_,_=>rfl
 | v :: r,o,w=>by rw [World.setCells,cells_size g r];simp
theorem cells_but (g:Nat):∀(vs:List Value) (o:Nat) (w:World),But g w (w.setCells g o vs)
 | [],_,w=>But.refl _ _
 | v :: r,o,w=>(But.set g o w v).trans (cells_but g r (o+1) _)
theorem ten_heap {w:World} {b:Nat} {t:TypeId} {cs vs:Array Value} (h:w.heap[b]?=some (.cells cs t (0,0))) (hc:cs.size=10) (hv:vs.size=10):(w.setCells b 0 vs.toList).heap[b]?=some (.cells vs t (0,0)):=by
 rw [cells_heap b t vs.toList 0 w cs h (by simp;omega)]
 have hd:List.drop 10 cs.toList = []:=List.drop_eq_nil_of_le (by simp [hc])
 simp [hv,hd]
structure DI (w u:World):Prop where
 b4:u.heap[w.heap.size]?=some (.cells #[.slice none 0 0,.slice none 0 0,.slice none 0 0,.slice none 0 0,.slice none 0 0,.slice none 0 0,.slice none 0 0,.slice none 0 0,.slice none 0 0,.slice none 0 0] 36 (0,0))
 b5:u.heap[w.heap.size+1]?=some (.cells #[.int .i64 0] 38 (0,0))
 bel:Below w.heap.size w u
def dw (w:World):World:=(w.alloc (.cells #[.slice none 0 0,.slice none 0 0,.slice none 0 0,.slice none 0 0,.slice none 0 0,.slice none 0 0,.slice none 0 0,.slice none 0 0,.slice none 0 0,.slice none 0 0] 36)).alloc (.cells #[.int .i64 0] 38)
theorem DI.start (w:World):DI w (dw w):=by
 have h1:(w.alloc (.cells #[.slice none 0 0,.slice none 0 0,.slice none 0 0,.slice none 0 0,.slice none 0 0,.slice none 0 0,.slice none 0 0,.slice none 0 0,.slice none 0 0,.slice none 0 0] 36)).heap[w.heap.size]?=some (.cells #[.slice none 0 0,.slice none 0 0,.slice none 0 0,.slice none 0 0,.slice none 0 0,.slice none 0 0,.slice none 0 0,.slice none 0 0,.slice none 0 0,.slice none 0 0] 36 (0,0)):=heap_alloc_new' w _ rfl
 have h2:(dw w).heap[w.heap.size+1]?=some (.cells #[.int .i64 0] 38 (0,0)):=heap_alloc_new' _ _ (by simp)
 exact ⟨heap_alloc_of h1,h2,below_go' (new_on' _ _) (new_on' _ _)⟩
theorem DI.on {w u u':World} (h:DI w u) (hb:Below u.heap.size u u'):DI w u' :=
 ⟨by rw [hb.block _ (Array.getElem?_eq_some_iff.1 h.b4).1];exact h.b4,by rw [hb.block _ (Array.getElem?_eq_some_iff.1 h.b5).1];exact h.b5,below_go' h.bel hb⟩
theorem there_of {w:World} {b:Nat} {t:TypeId} {cs:Array Value} (h:w.heap[b]?=some (.cells cs t (0,0))) (hc:cs.size=10):w.there b 0 10:=fun j hj=>by
 refine ⟨?_,?_⟩
 ·unfold World.cell?;rw [h,Nat.zero_add]
  show (cs[j]?).isSome=true
  rw [Array.getElem?_eq_getElem (by omega)];rfl
 ·unfold World.frozen?;rw [h];simp
theorem size41:(Tryz.prog.info? 36).map (·.size)=some 10:=by kernel_rfl
end Dec
theorem dassert_yes (k:Int) (w:World):(Instr.typeAssert (.iface 38 (.int .i64 k)) 20 38 true).run Tryz.prog w=.ok (.tuple #[.int .i64 k,.bool true]) w:=by
 kernel_rfl
set_option maxRecDepth 100000 in
set_option maxHeartbeats 1000000 in
theorem decCatch (p q:Nat) (y:Value) (k:Int) (older:List PanicEntry) (w:World) (cs:Array Value) (hp:w.heap[p]?=some (.cells cs 36 (0,0))) (hc:cs.size=10) (hq:w.cell? ⟨q,0,none⟩=some y) (fq:w.frozen? ⟨q,0,none⟩=false) (hpq:q≠p) (W2:World) (hW2:w.setCells p 0 (#[.slice none 0 0,.slice none 0 0,.slice none 0 0,.slice none 0 0,.slice none 0 0,.slice none 0 0,.slice none 0 0,.slice none 0 0,.slice none 0 0,.slice none 0 0]:Array Value).toList=W2) :
  CallsD Tryz.prog 20 #[.pointer (some ⟨p,0,none⟩),.pointer (some ⟨q,0,none⟩)] (.panicking ({ v:=.iface 38 (.int .i64 k),recovered:=false } :: older)) w fun e u' w' =>
   e=.returned (.tuple #[])/\u'=.panicking ({ v:=.iface 38 (.int .i64 k),recovered:=true } :: older)/\w'=W2.setCell ⟨q,0,none⟩ (.int .i64 k):=by
 have hth:=there_of hp hc
 have hall:(#[.slice none 0 0,.slice none 0 0,.slice none 0 0,.slice none 0 0,.slice none 0 0,.slice none 0 0,.slice none 0 0,.slice none 0 0,.slice none 0 0,.slice none 0 0]:Array Value).all (·.oneCell')=true:=by simp [Value.oneCell']
 have hq':W2.cell? ⟨q,0,none⟩=some y:=by rw [<- hW2,World.cell?_of_block (w:=w) (cells_other p q hpq _ 0 w)];exact hq
 have fq':W2.frozen? ⟨q,0,none⟩=false:=by rw [<- hW2,World.frozen?_of_block (w:=w) (cells_other p q hpq _ 0 w)];exact fq
 have HW2:=hideR hW2
 clear hW2
 refine callsD_of_wpS Tryz.func20 rfl fun c₀ cs hu=>?_
 apply wpS_seq
 apply wpS_region
 simp [wpOpsS,go_sem,recoverD,hu,Tryz.ntmps20,Exit.thenS,dassert_yes]
 apply wpS_seq
 apply wpS_region
 simp [wpOpsS,go_sem,Exit.thenS]
 refine wpS_cond (t:=true) (by simp [Act.eval,Array.replicate]) ?_
 simp only [if_true]
 refine wpS_of_wp ?_
 go_wp2_with (refine wpList_store_mid rfl 36 (.tmp 0) (.tmp 10) rfl p 0 #[.slice none 0 0,.slice none 0 0,.slice none 0 0,.slice none 0 0,.slice none 0 0,.slice none 0 0,.slice none 0 0,.slice none 0 0,.slice none 0 0,.slice none 0 0] (by simp [Act.eval,Array.replicate]) (by simp [Act.eval,Array.replicate]) hth size41 hall ?_;rw [HW2.out])
 simp [bodyPostS,results,Tryz.results20]
theorem decIdle (p q:Nat) (w:World) :
  CallsD Tryz.prog 20 #[.pointer (some ⟨p,0,none⟩),.pointer (some ⟨q,0,none⟩)] .returning w fun e u' w'=>e=.returned (.tuple #[])/\u'=.returning/\w'=w:=by
 refine callsD_of_wpS Tryz.func20 rfl fun c₀ cs hu=>?_
 apply wpS_seq
 apply wpS_region
 simp [wpOpsS,go_sem,recoverD,hu,Tryz.ntmps20,Exit.thenS,xassert_no]
 apply wpS_seq
 apply wpS_region
 simp [wpOpsS,go_sem,Exit.thenS]
 refine wpS_cond (t:=false) (by simp [Act.eval,Array.replicate]) ?_
 simp only [Bool.false_eq_true,if_false]
 refine wpS_of_wp (wp_skip ?_)
 cases c₀
 simp_all [bodyPostS,results,Tryz.results20]
end Go.Proofs.YtiailkiepndliaaGreatDoor

