/- Texts that the claim needs. -/
import Derived.Test.YthfapccopngfhaaDoorQDex22
import Derived.Test.YthfapccopngfhaaDoorQDex1
import Derived.Lib.ValidU
import Derived.Ground.NamesProg
import Derived.WalkMore
import Derived.Shelf.Lay
import Derived.Shelf.Unicode.ValidAny
import Derived.Test.YthfapccopngfhaaDoorQDex8
import Derived.Shelf.LaysM
import Derived.Shelf.Strconv.Clone
import Derived.Deep.Cut
namespace Go.Proofs.YthfapccopngfhaaDoor
open Go.RowKit Rep Dec
set_option linter.unusedVariables false
namespace Dec
structure EI (w u:World):Prop where
 b4:u.heap[w.heap.size]?=some (.cells #[.slice none 0 0] 23 (0,0))
 b5:u.heap[w.heap.size+1]?=some (.cells #[.int .i64 0] 3 (0,0))
 b6:u.heap[w.heap.size+2]?=some (.cells #[.int .i64 0] 24 (0,0))
 bel:Below w.heap.size w u
def ew (w:World):World:=((w.alloc (.cells #[.slice none 0 0] 23)).alloc (.cells #[.int .i64 0] 3)).alloc (.cells #[.int .i64 0] 24)
theorem EI.start (w:World):EI w (ew w):=by
 have h1:(w.alloc (.cells #[.slice none 0 0] 23)).heap[w.heap.size]?=some (.cells #[.slice none 0 0] 23 (0,0)):=heap_alloc_new' w _ rfl
 have h2:((w.alloc (.cells #[.slice none 0 0] 23)).alloc (.cells #[.int .i64 0] 3)).heap[w.heap.size+1]?=some (.cells #[.int .i64 0] 3 (0,0)):=heap_alloc_new' _ _ (by simp)
 have h3:(ew w).heap[w.heap.size+2]?=some (.cells #[.int .i64 0] 24 (0,0)):=heap_alloc_new' _ _ (by simp)
 exact ⟨heap_alloc_of (heap_alloc_of h1),heap_alloc_of h2,h3,below_go' (below_go' (new_on' _ _) (new_on' _ _)) (new_on' _ _)⟩
theorem EI.on {w u u':World} (h:EI w u) (hb:Below u.heap.size u u'):EI w u' :=
 ⟨by rw [hb.block _ (Array.getElem?_eq_some_iff.1 h.b4).1];exact h.b4,by rw [hb.block _ (Array.getElem?_eq_some_iff.1 h.b5).1];exact h.b5,by rw [hb.block _ (Array.getElem?_eq_some_iff.1 h.b6).1];exact h.b6,below_go' h.bel hb⟩
def e3 (w u:World) (v y x:Value):World:=((u.setCell ⟨w.heap.size,0,none⟩ v).setCell ⟨w.heap.size+1,0,none⟩ y).setCell ⟨w.heap.size+2,0,none⟩ x
theorem EI.set {w u:World} (h:EI w u) (v y x:Value):(e3 w u v y x).cell? ⟨w.heap.size,0,none⟩=some v/\(e3 w u v y x).cell? ⟨w.heap.size+1,0,none⟩=some y/\(e3 w u v y x).cell? ⟨w.heap.size+2,0,none⟩=some x/\Below w.heap.size w (e3 w u v y x):=by
 have a4:=heap_setCell_same u w.heap.size 0 _ _ v h.b4
 have a5:=heap_setCell_same (u.setCell ⟨w.heap.size,0,none⟩ v) (w.heap.size+1) 0 _ _ y (by rw [Below.heap_setCell _ _ _ _ (by show w.heap.size+1≠w.heap.size;omega)];exact h.b5)
 have a6:=heap_setCell_same ((u.setCell ⟨w.heap.size,0,none⟩ v).setCell ⟨w.heap.size+1,0,none⟩ y) (w.heap.size+2) 0 _ _ x (by rw [Below.heap_setCell _ _ _ _ (by show w.heap.size+2≠w.heap.size+1;omega),Below.heap_setCell _ _ _ _ (by show w.heap.size+2≠w.heap.size;omega)];exact h.b6)
 refine ⟨?_,?_,?_,((h.bel.setCell (Nat.le_refl _) v).setCell (by show w.heap.size<=w.heap.size+1;omega) y).setCell (by show w.heap.size<=w.heap.size+2;omega) x⟩
 ·unfold e3
  rw [cell_oth (by show w.heap.size≠w.heap.size+2;omega),cell_oth (by show w.heap.size≠w.heap.size+1;omega)]
  unfold World.cell?;rw [a4];rfl
 ·unfold e3
  rw [cell_oth (by show w.heap.size+1≠w.heap.size+2;omega)]
  unfold World.cell?;rw [a5];rfl
 ·unfold e3
  unfold World.cell?;rw [a6];rfl
theorem EI.catch {w u : World} (h : EI w u) (k : Int) : CallsD Tryd.prog 9 #[.pointer (some ⟨w.heap.size, 0, none⟩), .pointer (some ⟨w.heap.size + 1, 0, none⟩), .pointer (some ⟨w.heap.size + 2, 0, none⟩)] (.panicking (gave k)) u fun e u' w' =>
      e = .returned (.tuple #[]) ∧ u' = .panicking ({ v := .iface 24 (.int .i64 k), recovered := true } :: []) ∧ w' = e3 w u (.slice none 0 0) (.int .i64 0) (.int .i64 k) :=
  exprCatch w.heap.size (w.heap.size + 1) (w.heap.size + 2) _ _ _ k [] u (cell_of h.b4) (cell_of h.b5) (cell_of h.b6) (free_of h.b4) (free_of h.b5) (free_of h.b6) (by omega) (by omega) (by omega)
theorem x_end {w t:World} {y4:Value} (k4:t.heap[w.heap.size]?=some (.cells #[y4] 23 (0,0))) (k5:t.heap[w.heap.size+1]?=some (.cells #[.int .i64 0] 3 (0,0))) (k6:t.heap[w.heap.size+1+1]?=some (.cells #[.int .i64 0] 24 (0,0))) (v y x:Value) :
  ((((t.setCell ⟨w.heap.size,0,none⟩ v).setCell ⟨w.heap.size+1,0,none⟩ y).setCell ⟨w.heap.size+1+1,0,none⟩ x).drew).cell? ⟨w.heap.size,0,none⟩=some v /\
  ((((t.setCell ⟨w.heap.size,0,none⟩ v).setCell ⟨w.heap.size+1,0,none⟩ y).setCell ⟨w.heap.size+1+1,0,none⟩ x).drew).cell? ⟨w.heap.size+1,0,none⟩=some y /\
  ((((t.setCell ⟨w.heap.size,0,none⟩ v).setCell ⟨w.heap.size+1,0,none⟩ y).setCell ⟨w.heap.size+1+1,0,none⟩ x).drew).cell? ⟨w.heap.size+1+1,0,none⟩=some x /\
  ∀k,w.heap.size+2<k->((((t.setCell ⟨w.heap.size,0,none⟩ v).setCell ⟨w.heap.size+1,0,none⟩ y).setCell ⟨w.heap.size+1+1,0,none⟩ x).drew).heap[k]?=t.heap[k]?:=by
 have a4:=heap_setCell_same t w.heap.size 0 _ _ v k4
 have a5:=heap_setCell_same (t.setCell ⟨w.heap.size,0,none⟩ v) (w.heap.size+1) 0 _ _ y (by rw [Below.heap_setCell _ _ _ _ (by show w.heap.size+1≠w.heap.size;omega)];exact k5)
 have a6:=heap_setCell_same ((t.setCell ⟨w.heap.size,0,none⟩ v).setCell ⟨w.heap.size+1,0,none⟩ y) (w.heap.size+1+1) 0 _ _ x (by rw [Below.heap_setCell _ _ _ _ (by show w.heap.size+1+1≠w.heap.size+1;omega),Below.heap_setCell _ _ _ _ (by show w.heap.size+1+1≠w.heap.size;omega)];exact k6)
 refine ⟨?_,?_,?_,fun k hk=>?_⟩
 ·show (((t.setCell ⟨w.heap.size,0,none⟩ v).setCell ⟨w.heap.size+1,0,none⟩ y).setCell ⟨w.heap.size+1+1,0,none⟩ x).cell? ⟨w.heap.size,0,none⟩=some v
  rw [cell_oth (by show w.heap.size≠w.heap.size+1+1;omega),cell_oth (by show w.heap.size≠w.heap.size+1;omega)]
  unfold World.cell?;rw [a4];rfl
 ·show (((t.setCell ⟨w.heap.size,0,none⟩ v).setCell ⟨w.heap.size+1,0,none⟩ y).setCell ⟨w.heap.size+1+1,0,none⟩ x).cell? ⟨w.heap.size+1,0,none⟩=some y
  rw [cell_oth (by show w.heap.size+1≠w.heap.size+1+1;omega)]
  unfold World.cell?;rw [a5];rfl
 ·show (((t.setCell ⟨w.heap.size,0,none⟩ v).setCell ⟨w.heap.size+1,0,none⟩ y).setCell ⟨w.heap.size+1+1,0,none⟩ x).cell? ⟨w.heap.size+1+1,0,none⟩=some x
  unfold World.cell?;rw [a6];rfl
 ·show (((t.setCell ⟨w.heap.size,0,none⟩ v).setCell ⟨w.heap.size+1,0,none⟩ y).setCell ⟨w.heap.size+1+1,0,none⟩ x).heap[k]?=t.heap[k]?
  rw [Below.heap_setCell _ _ _ _ (by show k≠w.heap.size+1+1;omega),Below.heap_setCell _ _ _ _ (by show k≠w.heap.size+1;omega),Below.heap_setCell _ _ _ _ (by show k≠w.heap.size;omega)]
theorem rs_new {w3:World} {s:ByteArray} {a:Nat} (ha:a<=s.size) (hs:s.size<=262144):RS w3 w3.heap.size s (fun _=>.slice none 0 0) s.size 0 a 0 (w3.alloc (.cells #[.string s,.int .i64 a,.int .i64 s.size,.slice none 0 0,.slice none 0 0,.slice none 0 0,.slice none 0 0,.slice none 0 0,.slice none 0 0,.slice none 0 0,.slice none 0 0,.slice none 0 0,.slice none 0 0,.int .i64 0,.int .i64 0] 48)) :=
 ⟨new_on' _ _,Nat.le_refl _,heap_alloc_new' _ _ rfl,ha,Nat.le_refl _,hs⟩
end Dec
set_option maxRecDepth 100000 in
set_option maxHeartbeats 8000000 in
theorem dExpr (s:ByteArray) (a:Int) (w:World) (hs:s.size<=4611686018427387904):Calls Tryd.prog 5 #[.string s,.int .i64 a] w (XSays s a w):=by
 have H0:=hideR (EI.start w)
 have hmf:∀(fn:Fn) (first cap:Array Value) (w:World),(Instr.makeFunc fn first cap).run Tryd.prog w=.ok (.func fn first cap) w:=fun _ _ _ _=>rfl
 by_cases h1:262144<s.size
 ·have e:xE s a=.error 2:=by unfold xE;rw [if_pos h1]
  have hd:decide ((s.size:Int)<=262144)=false:=decide_eq_false (by omega)
  unfold XSays
  rw [e]
  clear e h1
  go_enter_defers Tryd.func5,Tryd.ntmps5
  go_upto_region 2 with fail
  obtain ⟨wb,hwb⟩:∃wb,wb=ew w:=⟨_,rfl⟩
  rw [<- hwb] at H0
  have hwb':=hwb
  unfold ew at hwb'
  rw [<- hwb']
  clear hwb hwb'
  go_wp2_with fail
  refine (needN _ _).mono ?_
  rintro e u ⟨rfl,rfl⟩
  obtain ⟨z4,z5,z6,zb⟩:=H0.out.set (.slice none 0 0) (.int .i64 0) (.int .i64 2)
  go_wp2_with fail
  refine leaves_cons (f:=9) (args:=#[.pointer (some ⟨w.heap.size,0,none⟩),.pointer (some ⟨w.heap.size+1,0,none⟩),.pointer (some ⟨w.heap.size+2,0,none⟩)]) (by simp) (by simp [go_sem]) ?_
  refine (H0.out.catch 2).mono ?_
  rintro e u' w'' ⟨rfl,rfl,rfl⟩
  simp [Leaves,settle,results,Tryd.results5,go_sem,z4,z5,z6]
  exact zb
 have hd:decide ((s.size:Int)<=262144)=true:=decide_eq_true (by omega)
 by_cases h2:a<0
 ·have e:xE s a=.error 1:=by unfold xE;rw [if_neg h1,if_neg (by omega)]
  have q1:decide ((0:Int)<=a)=false:=decide_eq_false (by omega)
  unfold XSays
  rw [e]
  clear e h1 h2
  go_enter_defers Tryd.func5,Tryd.ntmps5
  go_upto_region 2 with fail
  obtain ⟨wb,hwb⟩:∃wb,wb=ew w:=⟨_,rfl⟩
  rw [<- hwb] at H0
  have hwb':=hwb
  unfold ew at hwb'
  rw [<- hwb']
  clear hwb hwb'
  go_wp2_with fail
  refine (needY _ _).mono ?_
  rintro e wb ⟨rfl,rfl⟩
  go_wp2_with fail
  refine (needN _ _).mono ?_
  rintro e wb ⟨rfl,rfl⟩
  obtain ⟨z4,z5,z6,zb⟩:=H0.out.set (.slice none 0 0) (.int .i64 0) (.int .i64 1)
  go_wp2_with fail
  refine leaves_cons (f:=9) (args:=#[.pointer (some ⟨w.heap.size,0,none⟩),.pointer (some ⟨w.heap.size+1,0,none⟩),.pointer (some ⟨w.heap.size+2,0,none⟩)]) (by simp) (by simp [go_sem]) ?_
  refine (H0.out.catch 1).mono ?_
  rintro e u' w'' ⟨rfl,rfl,rfl⟩
  simp [Leaves,settle,results,Tryd.results5,go_sem,z4,z5,z6]
  exact zb
 have q1:decide ((0:Int)<=a)=true:=decide_eq_true (by omega)
 by_cases h3:(s.size:Int)<a
 ·have e:xE s a=.error 1:=by unfold xE;rw [if_neg h1,if_neg (by omega)]
  have q2:decide (a<=(s.size:Int))=false:=decide_eq_false (by omega)
  unfold XSays
  rw [e]
  clear e h1 h2 h3
  go_enter_defers Tryd.func5,Tryd.ntmps5
  go_upto_region 2 with fail
  obtain ⟨wb,hwb⟩:∃wb,wb=ew w:=⟨_,rfl⟩
  rw [<- hwb] at H0
  have hwb':=hwb
  unfold ew at hwb'
  rw [<- hwb']
  clear hwb hwb'
  go_wp2_with fail
  refine (needY _ _).mono ?_
  rintro e wb ⟨rfl,rfl⟩
  go_wp2_with fail
  refine (needN _ _).mono ?_
  rintro e wb ⟨rfl,rfl⟩
  obtain ⟨z4,z5,z6,zb⟩:=H0.out.set (.slice none 0 0) (.int .i64 0) (.int .i64 1)
  go_wp2_with fail
  refine leaves_cons (f:=9) (args:=#[.pointer (some ⟨w.heap.size,0,none⟩),.pointer (some ⟨w.heap.size+1,0,none⟩),.pointer (some ⟨w.heap.size+2,0,none⟩)]) (by simp) (by simp [go_sem]) ?_
  refine (H0.out.catch 1).mono ?_
  rintro e u' w'' ⟨rfl,rfl,rfl⟩
  simp [Leaves,settle,results,Tryd.results5,go_sem,z4,z5,z6]
  exact zb
 have q2:decide (a<=(s.size:Int))=true:=decide_eq_true (by omega)
 obtain ⟨b,rfl⟩:∃b:Nat,a=(b:Int):=⟨a.toNat,by omega⟩
 have q3:decide (b<=s.size)=true:=decide_eq_true (by omega)
 clear q2 q1
 have e:xE s b=rexpr s s.size b 0:=by unfold xE;rw [if_neg h1,if_pos (by omega)];rfl
 unfold XSays
 rw [e]
 have HRS:=fun (w3:World)=>hideR (rs_new (w3:=w3) (s:=s) (a:=b) (by omega) (by omega))
 have HX:=fun (w3:World)=>hideR (dExpression w3 w3.heap.size s (fun _=>.slice none 0 0) s.size 0 b 0 _ (HRS w3).out (by omega))
 clear e h1 h2 h3 hs
 cases hx:rexpr s s.size b 0 with
 | error z =>
  simp only [hx] at HX
  clear hx
  go_enter_defers Tryd.func5,Tryd.ntmps5
  go_upto_region 2 with fail
  obtain ⟨wb,hwb⟩:∃wb,wb=ew w:=⟨_,rfl⟩
  rw [<- hwb] at H0
  have hwb':=hwb
  unfold ew at hwb'
  rw [<- hwb']
  clear hwb hwb'
  go_wp2_with fail
  refine (needY _ _).mono ?_
  rintro e wb ⟨rfl,rfl⟩
  go_wp2_with fail
  refine (needY _ _).mono ?_
  rintro e wb ⟨rfl,rfl⟩
  have HC:=HX wb
  clear HX HRS
  go_wp2_with fail
  refine HC.out.mono ?_
  rintro e u ⟨rfl,hb⟩
  have H1:=hideR (H0.out.on hb)
  clear hb HC
  obtain ⟨z4,z5,z6,zb⟩:=H1.out.set (.slice none 0 0) (.int .i64 0) (.int .i64 z)
  go_wp2_with fail
  refine leaves_cons (f:=9) (args:=#[.pointer (some ⟨w.heap.size,0,none⟩),.pointer (some ⟨w.heap.size+1,0,none⟩),.pointer (some ⟨w.heap.size+2,0,none⟩)]) (by simp) (by simp [go_sem]) ?_
  refine (H1.out.catch z).mono ?_
  rintro e u' w'' ⟨rfl,rfl,rfl⟩
  simp [Leaves,settle,results,Tryd.results5,go_sem,z4,z5,z6]
  exact zb
 | ok v =>
  obtain ⟨l,j,m⟩:=v
  simp only [hx] at HX
  clear hx
  go_enter_defers Tryd.func5,Tryd.ntmps5
  go_upto_region 2 with fail
  obtain ⟨wb,hwb⟩:∃wb,wb=ew w:=⟨_,rfl⟩
  rw [<- hwb] at H0
  have hwb':=hwb
  unfold ew at hwb'
  rw [<- hwb']
  clear hwb hwb'
  go_wp2_with fail
  refine (needY _ _).mono ?_
  rintro e wb ⟨rfl,rfl⟩
  go_wp2_with fail
  refine (needY _ _).mono ?_
  rintro e wb ⟨rfl,rfl⟩
  have HC:=HX wb
  clear HX HRS
  go_wp2_with fail
  refine HC.out.mono ?_
  rintro e u ⟨⟨v,rfl,o,nn,kk,rfl,hA⟩,h1,h2⟩
  have H1:=hideR (H0.out.on h1.below)
  have HR1:=hideR h1
  have HA:=hideR hA
  have g4:u.cell? ⟨w.heap.size,0,none⟩=some (.slice none 0 0):=cell_of H1.out.b4
  have f4:u.frozen? ⟨w.heap.size,0,none⟩=false:=free_of H1.out.b4
  clear h1 h2 hA HC
  go_upto_region 6 with fail
  have hlt:w.heap.size+2<wb.heap.size:=(Array.getElem?_eq_some_iff.1 H0.out.b6).1
  obtain ⟨t1,ht1⟩:∃t1,t1=u.setCell ⟨w.heap.size,0,none⟩ (.slice o nn kk):=⟨_,rfl⟩
  have k4:t1.heap[w.heap.size]?=some (.cells #[.slice o nn kk] 23 (0,0)):=by rw [ht1];exact heap_setCell_same u w.heap.size 0 _ _ _ H1.out.b4
  have k5:t1.heap[w.heap.size+1]?=some (.cells #[.int .i64 0] 3 (0,0)):=by rw [ht1,Below.heap_setCell _ _ _ _ (by show w.heap.size+1≠w.heap.size;omega)];exact H1.out.b5
  have k6:t1.heap[w.heap.size+1+1]?=some (.cells #[.int .i64 0] 24 (0,0)):=by rw [ht1,Below.heap_setCell _ _ _ _ (by show w.heap.size+2≠w.heap.size;omega)];exact H1.out.b6
  have HRT:Hid (RS wb wb.heap.size s (fun _=>.slice none 0 0) s.size 0 j m u):=HR1
  have kp:t1.cell? ⟨wb.heap.size,1,none⟩=some (.int .i64 j):=by rw [ht1,cell_oth (by show wb.heap.size≠w.heap.size;omega)];exact HR1.out.cell 1 _ rfl
  have HE1:=hideR ht1
  have HK:Hid (t1.heap[w.heap.size]?=some (.cells #[.slice o nn kk] 23 (0,0))/\t1.heap[w.heap.size+1]?=some (.cells #[.int .i64 0] 3 (0,0))/\t1.heap[w.heap.size+1+1]?=some (.cells #[.int .i64 0] 24 (0,0))/\w.heap.size+2<wb.heap.size):=hideR ⟨k4,k5,k6,hlt⟩
  have c4:=cell_of (j:=0) k4
  have c5:=cell_of (j:=0) k5
  have c6:=cell_of (j:=0) k6
  have p4:=free_of (j:=0) k4
  have p5:=free_of (j:=0) k5
  have p6:=free_of (j:=0) k6
  rw [<- ht1]
  clear ht1 g4 f4 k4 k5 k6 hlt
  go_region
  obtain ⟨w9,hw9⟩:∃w9,w9=(((t1.setCell ⟨w.heap.size,0,none⟩ (.slice o nn kk)).setCell ⟨w.heap.size+1,0,none⟩ (.int .i64 j)).setCell ⟨w.heap.size+1+1,0,none⟩ (.int .i64 0)).drew:=⟨_,rfl⟩
  have HW9:=hideR (x_end HK.out.1 HK.out.2.1 HK.out.2.2.1 (.slice o nn kk) (.int .i64 j) (.int .i64 0))
  rw [<- hw9] at HW9 ⊢
  obtain ⟨z4,z5,z6,zk⟩:=HW9.out
  have HZK:=hideR zk
  have HB9:Hid (Below w.heap.size w w9):=hideR (by
   rw [hw9,HE1.out]
   exact ((((H1.out.bel.setCell (Nat.le_refl _) _).setCell (Nat.le_refl _) _).setCell (by show w.heap.size<=w.heap.size+1;omega) _).setCell (by show w.heap.size<=w.heap.size+1+1;omega) _).drew)
  have HA9:Hid (At w9 81 (.slice o nn kk) l):=hideR (AtS.at 81 _ _ (AtS.keep (S':=fun _=>True) (fun k hk=>⟨trivial,by
   have h1:=hk.1
   have h2:=HK.out.2.2.2
   have h3:wb.heap.size<(wb.alloc (.cells #[.string s,.int .i64 b,.int .i64 s.size,.slice none 0 0,.slice none 0 0,.slice none 0 0,.slice none 0 0,.slice none 0 0,.slice none 0 0,.slice none 0 0,.slice none 0 0,.slice none 0 0,.slice none 0 0,.int .i64 0,.int .i64 0] 48)).heap.size:=by simp
   rw [HZK.out k (by omega),HE1.out,Below.heap_setCell _ _ _ _ (by show k≠w.heap.size;omega)]⟩) 81 _ _ HA.out))
  clear zk hw9 c4 c5 c6 p4 p5 p6 kp HW9
  go_wp2_with fail
  refine leaves_cons (f:=9) (args:=#[.pointer (some ⟨w.heap.size,0,none⟩),.pointer (some ⟨w.heap.size+1,0,none⟩),.pointer (some ⟨w.heap.size+1+1,0,none⟩)]) (by simp) (by simp [go_sem]) ?_
  refine (exprIdle w.heap.size (w.heap.size+1) (w.heap.size+1+1) _).mono ?_
  rintro e u' w'' ⟨rfl,rfl,rfl⟩
  simp [Leaves,settle,results,Tryd.results5,go_sem,z4,z5,z6]
  exact ⟨HB9.out,o,nn,kk,⟨rfl,rfl,rfl⟩,HA9.out⟩
end Go.Proofs.YthfapccopngfhaaDoor

namespace Go.Proofs
open Go.RowKit Go.Shelf Go.Lib
shelf_lay Lays.n196 Nm 196 at Tryd as Tryd.laysValid
namespace YthfapccopngfhaaDoor
open Go.RowKit Rep
namespace Rep
def nm (s:ByteArray):Bool:=decide ((s.size:Int)<=64) && Lib.validD s.data.toList
end Rep
def UtfI (w:World):Prop:=Lib.Utf8Tabs (Tryd.laysValid_ren.g 3) (Tryd.laysValid_ren.g 4) w
end YthfapccopngfhaaDoor
end Go.Proofs

namespace Go.Proofs
open Go.RowKit Go.Shelf Go.Lib
shelf_lay LaysM.n316 Nm 316 at Tryd as Tryd.laysClone
namespace YthfapccopngfhaaDoor
open Go.RowKit Rep Dec
set_option linter.unusedVariables false
namespace Dec
def rtext (s:ByteArray) (en i:Nat):R ByteArray:=bd (ru s en i) fun n j=>if n<=(en:Int)-j then .ok (s.extract j (j+n.toNat),j+n.toNat) else .error 50
def vStr (a:ByteArray) (v:Value) (_:World):Prop:=v=.string a
def tG (p i en n:Nat):Nat->Value
 | 0=>.int .i64 n
 | 1=>.pointer (some ⟨p,0,none⟩)
 | 2=>.pointer (some ⟨p,0,none⟩)
 | 3=>.pointer (some ⟨p,2,none⟩)
 | 4=>.int .i64 en
 | 5=>.pointer (some ⟨p,0,none⟩)
 | 6=>.pointer (some ⟨p,0,none⟩)
 | 7=>.pointer (some ⟨p,1,none⟩)
 | 8=>.int .i64 i
 | 9=>.int .i64 ((en:Int)-i)
 | _=>.bool false
end Dec
theorem dClone0 (t:ByteArray) (w:World) (ht:t.size<=262144):Calls Tryd.prog 90 #[.string t] w fun e w'=>e=.returned (.string t)/\Below w.heap.size w w':=Any.stringslite_Clone Tryd.laysClone t w (by omega)
theorem dClone (t:ByteArray) (w:World) (ht:t.size<=262144):Calls Tryd.prog 83 #[.string t] w fun e w'=>e=.returned (.string t)/\Below w.heap.size w w':=by
 have HC:=hideR (dClone0 t w ht)
 go_enter Tryd.func83,Tryd.ntmps83
 go_wp2_with fail
 refine HC.out.mono ?_
 rintro e u ⟨rfl,hb⟩
 go_wp2
 go_ret
 exact ⟨rfl,hb⟩
set_option maxRecDepth 100000 in
set_option maxHeartbeats 4000000 in
theorem dText (w0:World) (p:Nat) (s:ByteArray) (c:Nat->Value) (en k i n:Nat) (w:World) (h:RS w0 p s c en k i n w) :
  Calls Tryd.prog 64 #[.pointer (some ⟨p,0,none⟩)] w (Rds w0 p s c en k n vStr w (rtext s en i)):=by
 have HC:=hideR (dUns w0 p s c en k i n w h)
 have hlen:=h.len
 have hbig:=h.big
 clear h
 unfold rtext
 cases hx:ru s en i with
 | error z =>
  rw [hx] at HC
  rw [bd_err]
  clear hx
  go_enter Tryd.func64,Tryd.ntmps64
  go_wp2_with fail
  refine HC.out.mono ?_
  rintro e w1 ⟨rfl,hb⟩
  exact ⟨rfl,rfl,hb⟩
 | ok v =>
  obtain ⟨x,j⟩:=v
  have hru:=ru_ok hlen hx
  rw [hx] at HC
  rw [bd_ok]
  clear hx
  obtain ⟨m,rfl⟩:∃m:Nat,x=(m:Int):=⟨x.toNat,by omega⟩
  rw [show ((m:Int).toNat)=m by omega]
  by_cases hm:(m:Int)<=(en:Int)-j
  ·rw [if_pos hm]
   have q1:decide ((m:Int)<=(en:Int)-(j:Int))=true:=decide_eq_true hm
   have a1:((j:Int)+(m:Int)).toNat=j+m:=by omega
   have hT:(s.extract j (j+m)).size<=262144:=by rw [ByteArray.size_extract];omega
   have HT:=fun u=>hideR (dClone (s.extract j (j+m)) u hT)
   have b1:j+m<=s.size:=by omega
   have b2:j+m<=en:=by omega
   have hjn:((j:Int)).toNat=j:=by omega
   clear hru hT hm
   go_enter Tryd.func64,Tryd.ntmps64
   go_wp2_with fail
   refine HC.out.mono ?_
   rintro e w1 ⟨⟨v,rfl,hv⟩,h1,h2⟩
   have hv:v=.int .i64 m:=hv
   subst hv
   have H1:=hideR h1
   have H2:=hideR h2
   have c0:=h1.cell 0 _ rfl
   have c1:=h1.cell 1 _ rfl
   have c2:=h1.cell 2 _ rfl
   have f1:=h1.frz 1
   clear h1 h2 HC
   go_wp2_with fail
   go_quiet (first|(go_at_call 10;exact Calls.quiet_of_same (needY _ _)))
   obtain ⟨t1,ht1⟩:∃t1,t1=(w1.drewN nq).setCell ⟨p,1,none⟩ (.int .i64 ((j:Int)+m)):=⟨_,rfl⟩
   have HR:Hid (RS w0 p s c en k (j+m) n t1):=hideR (by rw [ht1];have:=(H1.out.on (below_drewN' w1 nq)).at_ (j:=j+m) b2;rw [show ((j+m:Nat):Int)=(j:Int)+m by omega] at this;exact this)
   have HB:Hid (But p w t1):=hideR (by rw [ht1];exact (H2.out.trans (But.of p (below_drewN' w1 nq))).trans (But.set p 1 _ _))
   have HE:=hideR ht1
   clear ht1
   go_upto_region 5 with fail
   rw [<- HE.out]
   clear HE c0 c1 c2 f1 H1 H2
   have c0:=HR.out.cell 0 _ rfl
   have c1:=HR.out.cell 1 _ rfl
   rw [show ((j+m:Nat):Int)=(j:Int)+m by omega] at c1
   go_region_with (first|(go_at_call 83;refine (HT _).out.mono ?_;rintro e u ⟨rfl,hb⟩))
   all_goals (
    have HF:=hideR (⟨(HR.out.on (drew_on t1)).on hb,(HB.out.trans (But.of p (drew_on t1))).trans (But.of p hb)⟩:_/\_)
    clear hb HT
    go_wp2
    go_ret
    exact ⟨⟨_,rfl,rfl⟩,HF.out.1,HF.out.2⟩)
  ·rw [if_neg hm]
   have q1:decide ((m:Int)<=(en:Int)-(j:Int))=false:=decide_eq_false hm
   clear hru hm
   go_enter Tryd.func64,Tryd.ntmps64
   go_wp2_with fail
   refine HC.out.mono ?_
   rintro e w1 ⟨⟨v,rfl,hv⟩,h1,h2⟩
   have hv:v=.int .i64 m:=hv
   subst hv
   have H1:=hideR h1
   have c1:=h1.cell 1 _ rfl
   have c2:=h1.cell 2 _ rfl
   have hle:=h1.le
   clear h1 h2 HC
   go_wp2_with fail
   refine Reg.wp_region_two 11 (fun i=>7+i) (fun q v _=>v=tG p j en m q) (by kernel_rfl) (by kernel_rfl) (fun i j h1 h2 h=>by have h':7+i=7+j:=h;omega) (Reg.dst_ok (size:=42) (by kernel_rfl)) (fun i v w w' _ h _=>h) ?hstep ?htail
   case hstep =>
    intro q o a u hq ho hF hB hd
    have f0:a.tmps[0]?.getD undef=.pointer (some ⟨p,0,none⟩):=Reg.ev_get (hF.eval 0 (fun i hi=>by show 7+i≠0;omega))
    have f3:a.tmps[3]?.getD undef=.int .i64 m:=Reg.ev_get (hF.eval 3 (fun i hi=>by show 7+i≠3;omega))
    have d1:=cell_on hB c1
    have d2:=cell_on hB c2
    have hcase:q=0\/q=1\/q=2\/q=3\/q=4\/q=5\/q=6\/q=7\/q=8\/q=9\/q=10:=by omega
    clear hq c1 c2
    rcases hcase with rfl|rfl|rfl|rfl|rfl|rfl|rfl|rfl|rfl|rfl|rfl
    all_goals (simp only [List.getElem?_toArray,List.getElem?_cons_succ,List.getElem?_cons_zero,Option.some.injEq] at ho;subst ho;refine Reg.step_k fun K hK=>?_)
    ·go_simp
     exact hK _ _ ⟨_,rfl,Below.refl _ _,rfl⟩
    ·go_simp
     exact hK _ _ ⟨_,rfl,Below.refl _ _,rfl⟩
    ·have q:a.tmps[8]?.getD undef=.pointer (some ⟨p,0,none⟩):=Reg.ev_get (hd 1 (by decide))
     go_simp
     exact hK _ _ ⟨_,rfl,Below.refl _ _,rfl⟩
    ·have q:a.tmps[9]?.getD undef=.pointer (some ⟨p,0,none⟩):=Reg.ev_get (hd 2 (by decide))
     go_simp
     exact hK _ _ ⟨_,rfl,Below.refl _ _,rfl⟩
    ·have q:a.tmps[10]?.getD undef=.pointer (some ⟨p,2,none⟩):=Reg.ev_get (hd 3 (by decide))
     go_simp
     exact hK _ _ ⟨_,rfl,Below.refl _ _,rfl⟩
    ·go_simp
     exact hK _ _ ⟨_,rfl,Below.refl _ _,rfl⟩
    ·have q:a.tmps[12]?.getD undef=.pointer (some ⟨p,0,none⟩):=Reg.ev_get (hd 5 (by decide))
     go_simp
     exact hK _ _ ⟨_,rfl,Below.refl _ _,rfl⟩
    ·have q:a.tmps[13]?.getD undef=.pointer (some ⟨p,0,none⟩):=Reg.ev_get (hd 6 (by decide))
     go_simp
     exact hK _ _ ⟨_,rfl,Below.refl _ _,rfl⟩
    ·have q:a.tmps[14]?.getD undef=.pointer (some ⟨p,1,none⟩):=Reg.ev_get (hd 7 (by decide))
     go_simp
     exact hK _ _ ⟨_,rfl,Below.refl _ _,rfl⟩
    ·have q:a.tmps[11]?.getD undef=.int .i64 en:=Reg.ev_get (hd 4 (by decide))
     have q2:a.tmps[15]?.getD undef=.int .i64 j:=Reg.ev_get (hd 8 (by decide))
     have q3:IntKind.i64.wrap ((en:Int)-(j:Int))=(en:Int)-j:=by first|omega|(rw [IntKind.wrap_i64];first|omega|(unfold wrap64;omega))
     have q4:wrap64 ((en:Int)-(j:Int))=(en:Int)-j:=by first|omega|(unfold wrap64;omega)
     go_simp
     exact hK _ _ ⟨_,rfl,Below.refl _ _,by first|rfl|(rw [q3];rfl)|(rw [q4];rfl)⟩
    ·have q:a.tmps[7]?.getD undef=.int .i64 m:=Reg.ev_get (hd 0 (by decide))
     have q2:a.tmps[16]?.getD undef=.int .i64 ((en:Int)-j):=Reg.ev_get (hd 9 (by decide))
     go_simp
     exact hK _ _ ⟨_,rfl,Below.refl _ _,rfl⟩
   case htail =>
    intro a u hF hB hG
    have q:a.tmps[17]?.getD undef=.bool false:=Reg.ev_get (hG 10 (by decide))
    simp only [List.drop_succ_cons,List.drop_zero]
    refine wpList_plain rfl fun K hK=>?_
    go_simp
    refine (needN _ _).mono ?_
    rintro e u2 ⟨rfl,rfl⟩
    exact ⟨hF.defers,rfl,H1.out.below.trans (hB.mono H1.out.below.size)⟩
end YthfapccopngfhaaDoor
end Go.Proofs

namespace Go.Proofs
open Go.RowKit Go.Shelf Go.Lib
namespace YthfapccopngfhaaDoor
open Go.RowKit Rep
set_option maxHeartbeats 1000000 in
set_option maxRecDepth 1000000 in
theorem pName (s:ByteArray) (w:World) (hs:s.size<=9223372036854775807) (hT:UtfI w) :
  Calls Tryd.prog 85 #[.string s] w fun e w'=>e=.returned (.bool (nm s))/\Below w.heap.size w w':=by
 have cV:Calls Tryd.prog 63 #[.string s] w _:=Any.utf8_ValidString Tryd.laysValid s w (by omega) hT
 unfold nm
 generalize Lib.validD s.data.toList=V at cV ⊢
 have CV:=hideM cV
 clear cV
 by_cases h0:s.size<=64
 ·have h0z:decide ((s.size:Int)<=64)=true:=by simp;omega
  rw [h0z,Bool.true_and]
  go_enter Tryd.func85,Tryd.ntmps85
  go_wp2_with fail
  refine CV.out.mono ?_
  rintro e w' ⟨rfl,hb⟩
  go_wp2
  go_ret
  exact ⟨rfl,hb⟩
 ·have h0z:decide ((s.size:Int)<=64)=false:=by simp;omega
  rw [h0z,Bool.false_and]
  clear CV
  go_enter Tryd.func85,Tryd.ntmps85
  go_wp2
  go_ret
  exact ⟨rfl,Below.refl _ _⟩
end YthfapccopngfhaaDoor
end Go.Proofs

