/- Texts that the claim needs. -/
import Derived.Test.YtgbbmdknbflilaaDoorQDcu10
import Derived.Test.YtgbbmdknbflilaaDoorQDcu12
import Derived.Deep.Cut
namespace Go.Proofs.YtgbbmdknbflilaaDoor
open Go.RowKit Rep Dec
set_option linter.unusedVariables false
namespace Dec
def vIns (B d:Nat) (x:Ins (IL d)) (v:Value) (w:World):Prop:=∃o4 n4 k4 o5 n5 k5 o6 n6 k6,v=.agg #[.int .i64 x.op,.int .i64 x.a,.int .i64 x.b,.int .i64 x.n,.slice o4 n4 k4,.slice o5 n5 k5,.slice o6 n6 k6]/\IntsS w (Since B w none) (.slice o4 n4 k4) x.labels/\AtS w (Since B w none) d (.slice o5 n5 k5) x.body/\AtS w (Since B w none) d (.slice o6 n6 k6) x.els
theorem ints_nil (w:World) (S:Nat->Prop):IntsS w S (.slice none 0 0) []:=⟨by simp,.inl ⟨rfl,none,0,rfl⟩⟩
theorem at_nil (w:World) (S:Nat->Prop):∀d,AtS w S d (.slice none 0 0) (none_ d)
 | 0=>⟨none,0,rfl⟩
 | _+1=>⟨by simp [none_],.inl ⟨rfl,none,0,rfl⟩⟩
def mk2 (w:World) (op a:Int):World:=(w.alloc (.cells #[.int .i64 0,.int .i64 0,.int .i64 0,.int .i64 0,.slice none 0 0,.slice none 0 0,.slice none 0 0] 75)).alloc (.cells #[.int .i64 op,.int .i64 a,.int .i64 0,.int .i64 0,.slice none 0 0,.slice none 0 0,.slice none 0 0] 75)
theorem mk2_on (w:World) (op a:Int):Below w.heap.size w (mk2 w op a):=below_go' (new_on' _ _) (new_on' _ _)
theorem mk2_r (w:World) (op a:Int):Blk (mk2 w op a) w.heap.size 0 0 0 0 (.slice none 0 0) (.slice none 0 0) (.slice none 0 0) :=
 (Blk.new w w.heap.size 0 0 0 0 (.slice none 0 0) (.slice none 0 0) (.slice none 0 0) rfl).keep ((new_on' _ _).block _ (by simp))
theorem mk2_x (w:World) (op a:Int):Blk (mk2 w op a) (w.heap.size+1) op a 0 0 (.slice none 0 0) (.slice none 0 0) (.slice none 0 0) :=
 Blk.new _ (w.heap.size+1) op a 0 0 (.slice none 0 0) (.slice none 0 0) (.slice none 0 0) (by simp)
theorem set_blk {w:World} {q r j:Nat} {op a b n:Int} {v4 v5 v6 v:Value} (h:Blk w q op a b n v4 v5 v6) (hne:q≠r):Blk (w.setCell ⟨r,j,none⟩ v) q op a b n v4 v5 v6:=h.keep (Below.heap_setCell _ _ _ _ hne)
section
variable {w0 w u:World} {p:Nat} {s:ByteArray} {c:Nat->Value} {en k i n q r:Nat} {op a b m:Int} {v4 v5 v6:Value}
theorem RS.set (h:RS w0 p s c en k i n u) (hq:p≠q) (hb:w0.heap.size<=q) (j:Nat) (v:Value):RS w0 p s c en k i n (u.setCell ⟨q,j,none⟩ v) :=
 ⟨h.below.setCell hb v,h.base,by rw [Below.heap_setCell _ _ _ _ hq];exact h.blk,h.le,h.len,h.big⟩
theorem but_set (h:But p w u) (hq:w.heap.size<=q) (j:Nat) (v:Value):But p w (u.setCell ⟨q,j,none⟩ v) :=
 ⟨h.os,h.tape,h.output,by simpa using h.size,fun k hk hp=>by rw [Below.heap_setCell _ _ _ _ (by show k≠q;omega)];exact h.block k hk hp⟩
structure SI (w0 w:World) (p:Nat) (s:ByteArray) (c:Nat->Value) (en k i n r q:Nat) (op a b m:Int) (v4 v5 v6:Value) (u:World):Prop where
 rs:RS w0 p s c en k i n u
 but:But p w u
 res:Blk u r 0 0 0 0 (.slice none 0 0) (.slice none 0 0) (.slice none 0 0)
 x:Blk u q op a b m v4 v5 v6
 pw:p<w.heap.size
 hr:w.heap.size<=r
 hq:r<q
theorem SI.start (h:RS w0 p s c en k i n w) (op a:Int) (hb:Below (mk2 w op a).heap.size (mk2 w op a) u):SI w0 w p s c en k i n w.heap.size (w.heap.size+1) op a 0 0 (.slice none 0 0) (.slice none 0 0) (.slice none 0 0) u :=
 ⟨h.on (below_go' (mk2_on w op a) hb),But.of p (below_go' (mk2_on w op a) hb),(mk2_r w op a).keep (hb.block _ (mk2_r w op a).lt),(mk2_x w op a).keep (hb.block _ (mk2_x w op a).lt),h.lt,Nat.le_refl _,by omega⟩
theorem SI.call {i2 n2:Nat} {u2:World} (h:SI w0 w p s c en k i n r q op a b m v4 v5 v6 u) (h1:RS w0 p s c en k i2 n2 u2) (h2:But p u u2):SI w0 w p s c en k i2 n2 r q op a b m v4 v5 v6 u2 :=
 ⟨h1,h.but.trans h2,h.res.keep (h2.block _ h.res.lt (fun e=>by injection e with e;have:=h.pw;have:=h.hr;omega)),h.x.keep (h2.block _ h.x.lt (fun e=>by injection e with e;have:=h.pw;have:=h.hr;have:=h.hq;omega)),h.pw,h.hr,h.hq⟩
theorem SI.set1 (h:SI w0 w p s c en k i n r q op a b m v4 v5 v6 u) (z:Int):SI w0 w p s c en k i n r q op z b m v4 v5 v6 (u.setCell ⟨q,1,none⟩ (.int .i64 z)) :=
 ⟨h.rs.set (by have:=h.pw;have:=h.hr;have:=h.hq;omega) (by have:=h.rs.base;have:=h.pw;have:=h.hr;have:=h.hq;omega) _ _,but_set h.but (by have:=h.hr;have:=h.hq;omega) _ _,set_blk h.res (by have:=h.hq;omega),heap_setCell_same u q 1 _ _ _ h.x,h.pw,h.hr,h.hq⟩
theorem SI.set2 (h:SI w0 w p s c en k i n r q op a b m v4 v5 v6 u) (z:Int):SI w0 w p s c en k i n r q op a z m v4 v5 v6 (u.setCell ⟨q,2,none⟩ (.int .i64 z)) :=
 ⟨h.rs.set (by have:=h.pw;have:=h.hr;have:=h.hq;omega) (by have:=h.rs.base;have:=h.pw;have:=h.hr;have:=h.hq;omega) _ _,but_set h.but (by have:=h.hr;have:=h.hq;omega) _ _,set_blk h.res (by have:=h.hq;omega),heap_setCell_same u q 2 _ _ _ h.x,h.pw,h.hr,h.hq⟩
theorem SI.set3 (h:SI w0 w p s c en k i n r q op a b m v4 v5 v6 u) (z:Int):SI w0 w p s c en k i n r q op a b z v4 v5 v6 (u.setCell ⟨q,3,none⟩ (.int .i64 z)) :=
 ⟨h.rs.set (by have:=h.pw;have:=h.hr;have:=h.hq;omega) (by have:=h.rs.base;have:=h.pw;have:=h.hr;have:=h.hq;omega) _ _,but_set h.but (by have:=h.hr;have:=h.hq;omega) _ _,set_blk h.res (by have:=h.hq;omega),heap_setCell_same u q 3 _ _ _ h.x,h.pw,h.hr,h.hq⟩
theorem SI.set4 (h:SI w0 w p s c en k i n r q op a b m v4 v5 v6 u) (z:Value):SI w0 w p s c en k i n r q op a b m z v5 v6 (u.setCell ⟨q,4,none⟩ (z)) :=
 ⟨h.rs.set (by have:=h.pw;have:=h.hr;have:=h.hq;omega) (by have:=h.rs.base;have:=h.pw;have:=h.hr;have:=h.hq;omega) _ _,but_set h.but (by have:=h.hr;have:=h.hq;omega) _ _,set_blk h.res (by have:=h.hq;omega),heap_setCell_same u q 4 _ _ _ h.x,h.pw,h.hr,h.hq⟩
theorem SI.set5 (h:SI w0 w p s c en k i n r q op a b m v4 v5 v6 u) (z:Value):SI w0 w p s c en k i n r q op a b m v4 z v6 (u.setCell ⟨q,5,none⟩ (z)) :=
 ⟨h.rs.set (by have:=h.pw;have:=h.hr;have:=h.hq;omega) (by have:=h.rs.base;have:=h.pw;have:=h.hr;have:=h.hq;omega) _ _,but_set h.but (by have:=h.hr;have:=h.hq;omega) _ _,set_blk h.res (by have:=h.hq;omega),heap_setCell_same u q 5 _ _ _ h.x,h.pw,h.hr,h.hq⟩
theorem SI.set6 (h:SI w0 w p s c en k i n r q op a b m v4 v5 v6 u) (z:Value):SI w0 w p s c en k i n r q op a b m v4 v5 z (u.setCell ⟨q,6,none⟩ (z)) :=
 ⟨h.rs.set (by have:=h.pw;have:=h.hr;have:=h.hq;omega) (by have:=h.rs.base;have:=h.pw;have:=h.hr;have:=h.hq;omega) _ _,but_set h.but (by have:=h.hr;have:=h.hq;omega) _ _,set_blk h.res (by have:=h.hq;omega),heap_setCell_same u q 6 _ _ _ h.x,h.pw,h.hr,h.hq⟩
def out7 (u:World) (r:Nat) (v0 v1 v2 v3 v4 v5 v6:Value):World:=((((((u.setCell ⟨r,0,none⟩ v0).setCell ⟨r,1,none⟩ v1).setCell ⟨r,2,none⟩ v2).setCell ⟨r,3,none⟩ v3).setCell ⟨r,4,none⟩ v4).setCell ⟨r,5,none⟩ v5).setCell ⟨r,6,none⟩ v6
theorem out7_blk {v0 v1 v2 v3:Value} (h:Blk u r 0 0 0 0 (.slice none 0 0) (.slice none 0 0) (.slice none 0 0)):(out7 u r v0 v1 v2 v3 v4 v5 v6).heap[r]?=some (.cells #[v0,v1,v2,v3,v4,v5,v6] 75 (0,0)) :=
 heap_setCell_same _ r 6 _ _ _ (heap_setCell_same _ r 5 _ _ _ (heap_setCell_same _ r 4 _ _ _ (heap_setCell_same _ r 3 _ _ _ (heap_setCell_same _ r 2 _ _ _ (heap_setCell_same _ r 1 _ _ _ (heap_setCell_same _ r 0 _ _ _ h))))))
theorem SI.fin (h:SI w0 w p s c en k i n r q op a b m v4 v5 v6 u) (y0 y1 y2 y3 y4 y5 y6:Value):RS w0 p s c en k i n (out7 u r y0 y1 y2 y3 y4 y5 y6)/\But p w (out7 u r y0 y1 y2 y3 y4 y5 y6):=by
 have hp:p≠r:=by have:=h.pw;have:=h.hr;omega
 have hb:w0.heap.size<=r:=by have:=h.rs.base;have:=h.pw;have:=h.hr;omega
 have hr:=h.hr
 exact ⟨((((((h.rs.set hp hb _ _).set hp hb _ _).set hp hb _ _).set hp hb _ _).set hp hb _ _).set hp hb _ _).set hp hb _ _,but_set (but_set (but_set (but_set (but_set (but_set (but_set h.but hr _ _) hr _ _) hr _ _) hr _ _) hr _ _) hr _ _) hr _ _⟩
theorem since_set {B B2 j:Nat} {v:Value} (hr:r<B2) (hB:B<=B2):∀k,Since B2 u none k->Since B (u.setCell ⟨r,j,none⟩ v) none k/\(u.setCell ⟨r,j,none⟩ v).heap[k]?=u.heap[k]?:=fun k hk =>
 ⟨⟨Nat.le_trans hB hk.1,by simpa using hk.2.1,by simp⟩,Below.heap_setCell _ _ _ _ (by have:=hk.1;show k≠r;omega)⟩
theorem since_out {B B2:Nat} {y0 y1 y2 y3 y4 y5 y6:Value} (hr:r<B2) (hB:B<=B2):∀k,Since B2 u none k->Since B (out7 u r y0 y1 y2 y3 y4 y5 y6) none k/\(out7 u r y0 y1 y2 y3 y4 y5 y6).heap[k]?=u.heap[k]?:=fun k hk=>by
 have hne:k≠r:=by have:=hk.1;omega
 refine ⟨⟨Nat.le_trans hB hk.1,by unfold out7;simpa using hk.2.1,by simp⟩,?_⟩
 unfold out7
 rw [Below.heap_setCell _ _ _ _ hne,Below.heap_setCell _ _ _ _ hne,Below.heap_setCell _ _ _ _ hne,Below.heap_setCell _ _ _ _ hne,Below.heap_setCell _ _ _ _ hne,Below.heap_setCell _ _ _ _ hne,Below.heap_setCell _ _ _ _ hne]
theorem since_but {B:Nat} {u2:World} (hp:p<B) (h:But p u u2):∀k,Since B u none k->Since B u2 none k/\u2.heap[k]?=u.heap[k]?:=fun k hk =>
 ⟨⟨hk.1,Nat.lt_of_lt_of_le hk.2.1 h.size,by simp⟩,h.block k hk.2.1 (fun e=>by injection e with e;have:=hk.1;omega)⟩
end
end Dec
theorem formT (op:Int) (w:World):Calls Tryd.prog 58 #[.int .i64 op] w fun e w'=>e=.returned (.int .i64 (form op))/\Below w.heap.size w w':=pForm reckT op w trivial
theorem bitsT (op:Int) (w:World):Calls Tryd.prog 68 #[.int .i64 op] w fun e w'=>e=.returned (.int .i64 (if op=65 then 32 else 64))/\w'=w:=by
 by_cases h:op=65
 ·rw [if_pos h]
  subst h
  go_enter Tryd.func68,Tryd.ntmps68
  go_wp2
  go_ret
  exact ⟨rfl,rfl⟩
 ·rw [if_neg h]
  have q:(op == 65)=false:=by rw [beq_eq_false_iff_ne];exact h
  go_enter Tryd.func68,Tryd.ntmps68
  go_wp2
  go_ret
  exact ⟨rfl,rfl⟩
section
variable (w0:World) (p:Nat) (s:ByteArray) (c:Nat->Value) (en k i n:Nat) (w:World) (h:RS w0 p s c en k i n w) (d:Nat) (op:Int)
include h
set_option maxRecDepth 100000 in
set_option maxHeartbeats 4000000 in
theorem dSim1 (hf:form op=1) (hn:¬ (op=63\/op=64)):Calls Tryd.prog 59 #[.pointer (some ⟨p,0,none⟩),.int .i64 op] w (Rds w0 p s c en k n (vIns w.heap.size d) w (rsim (none_ d) s en op i)):=by
 have e0:rsim (none_ d) s en op i=.ok ({ op:=op,a:=0,b:=0,n:=0,labels:=[],body:=none_ d,els:=none_ d },i):=by unfold rsim;simp only;rw [if_pos hf,if_neg hn]
 rw [e0]
 clear e0
 have H:=hideR h
 have HF:=fun u=>hideR (formT op u)
 simp only [hf] at HF
 have q1:(op == 63)=false:=by rw [beq_eq_false_iff_ne];omega
 have q2:(op == 64)=false:=by rw [beq_eq_false_iff_ne];omega
 clear hn hf
 clear h
 go_enter Tryd.func59,Tryd.ntmps59
 go_wp2_with fail
 refine (HF _).out.mono ?_
 rintro e u ⟨rfl,hb⟩
 have HS:=hideR (SI.start H.out op 0 hb)
 clear hb HF
 have x0:=HS.out.x.cell 0 _ rfl
 have x1:=HS.out.x.cell 1 _ rfl
 have x2:=HS.out.x.cell 2 _ rfl
 have x3:=HS.out.x.cell 3 _ rfl
 have x4:=HS.out.x.cell 4 _ rfl
 have x5:=HS.out.x.cell 5 _ rfl
 have x6:=HS.out.x.cell 6 _ rfl
 have r0:=HS.out.res.cell 0 _ rfl
 have g0:=HS.out.res.frz 0
 have r1:=HS.out.res.cell 1 _ rfl
 have g1:=HS.out.res.frz 1
 have r2:=HS.out.res.cell 2 _ rfl
 have g2:=HS.out.res.frz 2
 have r3:=HS.out.res.cell 3 _ rfl
 have g3:=HS.out.res.frz 3
 have r4:=HS.out.res.cell 4 _ rfl
 have g4:=HS.out.res.frz 4
 have r5:=HS.out.res.cell 5 _ rfl
 have g5:=HS.out.res.frz 5
 have r6:=HS.out.res.cell 6 _ rfl
 have g6:=HS.out.res.frz 6
 go_wp2
 have z:=out7_blk (v0:=.int .i64 op) (v1:=.int .i64 0) (v2:=.int .i64 0) (v3:=.int .i64 0) (v4:=.slice none 0 0) (v5:=.slice none 0 0) (v6:=.slice none 0 0) HS.out.res
 have hz:∀j v,#[Value.int .i64 op,.int .i64 0,.int .i64 0,.int .i64 0,.slice none 0 0,.slice none 0 0,.slice none 0 0][j]?=some v->(out7 _ w.heap.size (.int .i64 op) (.int .i64 0) (.int .i64 0) (.int .i64 0) (.slice none 0 0) (.slice none 0 0) (.slice none 0 0)).cell? ⟨w.heap.size,j,none⟩=some v:=fun j v hv=>by unfold World.cell?;rw [z];exact hv
 have z0:=hz 0 _ rfl
 have z1:=hz 1 _ rfl
 have z2:=hz 2 _ rfl
 have z3:=hz 3 _ rfl
 have z4:=hz 4 _ rfl
 have z5:=hz 5 _ rfl
 have z6:=hz 6 _ rfl
 unfold out7 at z0 z1 z2 z3 z4 z5 z6
 exact bodyPost_ret (v:=.agg #[.int .i64 op,.int .i64 0,.int .i64 0,.int .i64 0,.slice none 0 0,.slice none 0 0,.slice none 0 0]) (by simp [results,Tryd.results59,go_sem,z0,z1,z2,z3,z4,z5,z6]) rfl
  ⟨⟨_,rfl,_,_,_,_,_,_,_,_,_,rfl,ints_nil _ _,at_nil _ _ d,at_nil _ _ d⟩,(HS.out.fin _ _ _ _ _ _ _).1,(HS.out.fin _ _ _ _ _ _ _).2⟩
set_option maxRecDepth 100000 in
set_option maxHeartbeats 4000000 in
theorem dSim63 (hf:form op=1) (hn:op=63):Calls Tryd.prog 59 #[.pointer (some ⟨p,0,none⟩),.int .i64 op] w (Rds w0 p s c en k n (vIns w.heap.size d) w (rsim (none_ d) s en op i)):=by
 have e0:rsim (none_ d) s en op i=bd (must s en 0 i) fun _ q0=>.ok ({ op:=op,a:=0,b:=0,n:=0,labels:=[],body:=none_ d,els:=none_ d },q0):=by unfold rsim;simp only;rw [if_pos hf,if_pos (.inl hn)]
 rw [e0]
 clear e0
 have H:=hideR h
 have HF:=fun u=>hideR (formT op u)
 simp only [hf] at HF
 have q1:(op == 63)=true:=by rw [hn];rfl
 clear hn hf
 clear h
 cases hx0:must s en 0 i with
 | error z =>
  rw [bd_err]
  go_enter Tryd.func59,Tryd.ntmps59
  go_wp2_with fail
  refine (HF _).out.mono ?_
  rintro e u ⟨rfl,hb⟩
  have HS:=hideR (SI.start H.out op 0 hb)
  clear hb HF
  have hc0:=dMust w0 p s c en k i n u HS.out.rs 0
  rw [hx0] at hc0
  have HC0:=hideR hc0
  clear hc0
  go_wp2_with fail
  refine HC0.out.mono ?_
  rintro e w1 ⟨rfl,hb⟩
  exact ⟨rfl,rfl,hb⟩
 | ok v =>
  obtain ⟨y0,q0⟩:=v
  rw [bd_ok]
  go_enter Tryd.func59,Tryd.ntmps59
  go_wp2_with fail
  refine (HF _).out.mono ?_
  rintro e u ⟨rfl,hb⟩
  have HS:=hideR (SI.start H.out op 0 hb)
  clear hb HF
  have hc0:=dMust w0 p s c en k i n u HS.out.rs 0
  rw [hx0] at hc0
  have HC0:=hideR hc0
  clear hc0
  go_wp2_with fail
  refine HC0.out.mono ?_
  rintro e u0 ⟨⟨v0,rfl,hv0⟩,h1,h2⟩
  have hv0:v0=.tuple #[]:=hv0
  subst hv0
  have HS0:=hideR (HS.out.call h1 h2)
  clear h1 h2 HC0
  have x0:=HS0.out.x.cell 0 _ rfl
  have x1:=HS0.out.x.cell 1 _ rfl
  have x2:=HS0.out.x.cell 2 _ rfl
  have x3:=HS0.out.x.cell 3 _ rfl
  have x4:=HS0.out.x.cell 4 _ rfl
  have x5:=HS0.out.x.cell 5 _ rfl
  have x6:=HS0.out.x.cell 6 _ rfl
  have r0:=HS0.out.res.cell 0 _ rfl
  have g0:=HS0.out.res.frz 0
  have r1:=HS0.out.res.cell 1 _ rfl
  have g1:=HS0.out.res.frz 1
  have r2:=HS0.out.res.cell 2 _ rfl
  have g2:=HS0.out.res.frz 2
  have r3:=HS0.out.res.cell 3 _ rfl
  have g3:=HS0.out.res.frz 3
  have r4:=HS0.out.res.cell 4 _ rfl
  have g4:=HS0.out.res.frz 4
  have r5:=HS0.out.res.cell 5 _ rfl
  have g5:=HS0.out.res.frz 5
  have r6:=HS0.out.res.cell 6 _ rfl
  have g6:=HS0.out.res.frz 6
  go_wp2
  have z:=out7_blk (v0:=.int .i64 op) (v1:=.int .i64 0) (v2:=.int .i64 0) (v3:=.int .i64 0) (v4:=.slice none 0 0) (v5:=.slice none 0 0) (v6:=.slice none 0 0) HS0.out.res
  have hz:∀j v,#[Value.int .i64 op,.int .i64 0,.int .i64 0,.int .i64 0,.slice none 0 0,.slice none 0 0,.slice none 0 0][j]?=some v->(out7 _ w.heap.size (.int .i64 op) (.int .i64 0) (.int .i64 0) (.int .i64 0) (.slice none 0 0) (.slice none 0 0) (.slice none 0 0)).cell? ⟨w.heap.size,j,none⟩=some v:=fun j v hv=>by unfold World.cell?;rw [z];exact hv
  have z0:=hz 0 _ rfl
  have z1:=hz 1 _ rfl
  have z2:=hz 2 _ rfl
  have z3:=hz 3 _ rfl
  have z4:=hz 4 _ rfl
  have z5:=hz 5 _ rfl
  have z6:=hz 6 _ rfl
  unfold out7 at z0 z1 z2 z3 z4 z5 z6
  exact bodyPost_ret (v:=.agg #[.int .i64 op,.int .i64 0,.int .i64 0,.int .i64 0,.slice none 0 0,.slice none 0 0,.slice none 0 0]) (by simp [results,Tryd.results59,go_sem,z0,z1,z2,z3,z4,z5,z6]) rfl
   ⟨⟨_,rfl,_,_,_,_,_,_,_,_,_,rfl,ints_nil _ _,at_nil _ _ d,at_nil _ _ d⟩,(HS0.out.fin _ _ _ _ _ _ _).1,(HS0.out.fin _ _ _ _ _ _ _).2⟩
set_option maxRecDepth 100000 in
set_option maxHeartbeats 4000000 in
theorem dSim64 (hf:form op=1) (hn:op=64):Calls Tryd.prog 59 #[.pointer (some ⟨p,0,none⟩),.int .i64 op] w (Rds w0 p s c en k n (vIns w.heap.size d) w (rsim (none_ d) s en op i)):=by
 have e0:rsim (none_ d) s en op i=bd (must s en 0 i) fun _ q0=>.ok ({ op:=op,a:=0,b:=0,n:=0,labels:=[],body:=none_ d,els:=none_ d },q0):=by unfold rsim;simp only;rw [if_pos hf,if_pos (.inr hn)]
 rw [e0]
 clear e0
 have H:=hideR h
 have HF:=fun u=>hideR (formT op u)
 simp only [hf] at HF
 have q1:(op == 63)=false:=by rw [hn];rfl
 have q2:(op == 64)=true:=by rw [hn];rfl
 clear hn hf
 clear h
 cases hx0:must s en 0 i with
 | error z =>
  rw [bd_err]
  go_enter Tryd.func59,Tryd.ntmps59
  go_wp2_with fail
  refine (HF _).out.mono ?_
  rintro e u ⟨rfl,hb⟩
  have HS:=hideR (SI.start H.out op 0 hb)
  clear hb HF
  have hc0:=dMust w0 p s c en k i n u HS.out.rs 0
  rw [hx0] at hc0
  have HC0:=hideR hc0
  clear hc0
  go_wp2_with fail
  refine HC0.out.mono ?_
  rintro e w1 ⟨rfl,hb⟩
  exact ⟨rfl,rfl,hb⟩
 | ok v =>
  obtain ⟨y0,q0⟩:=v
  rw [bd_ok]
  go_enter Tryd.func59,Tryd.ntmps59
  go_wp2_with fail
  refine (HF _).out.mono ?_
  rintro e u ⟨rfl,hb⟩
  have HS:=hideR (SI.start H.out op 0 hb)
  clear hb HF
  have hc0:=dMust w0 p s c en k i n u HS.out.rs 0
  rw [hx0] at hc0
  have HC0:=hideR hc0
  clear hc0
  go_wp2_with fail
  refine HC0.out.mono ?_
  rintro e u0 ⟨⟨v0,rfl,hv0⟩,h1,h2⟩
  have hv0:v0=.tuple #[]:=hv0
  subst hv0
  have HS0:=hideR (HS.out.call h1 h2)
  clear h1 h2 HC0
  have x0:=HS0.out.x.cell 0 _ rfl
  have x1:=HS0.out.x.cell 1 _ rfl
  have x2:=HS0.out.x.cell 2 _ rfl
  have x3:=HS0.out.x.cell 3 _ rfl
  have x4:=HS0.out.x.cell 4 _ rfl
  have x5:=HS0.out.x.cell 5 _ rfl
  have x6:=HS0.out.x.cell 6 _ rfl
  have r0:=HS0.out.res.cell 0 _ rfl
  have g0:=HS0.out.res.frz 0
  have r1:=HS0.out.res.cell 1 _ rfl
  have g1:=HS0.out.res.frz 1
  have r2:=HS0.out.res.cell 2 _ rfl
  have g2:=HS0.out.res.frz 2
  have r3:=HS0.out.res.cell 3 _ rfl
  have g3:=HS0.out.res.frz 3
  have r4:=HS0.out.res.cell 4 _ rfl
  have g4:=HS0.out.res.frz 4
  have r5:=HS0.out.res.cell 5 _ rfl
  have g5:=HS0.out.res.frz 5
  have r6:=HS0.out.res.cell 6 _ rfl
  have g6:=HS0.out.res.frz 6
  go_wp2
  have z:=out7_blk (v0:=.int .i64 op) (v1:=.int .i64 0) (v2:=.int .i64 0) (v3:=.int .i64 0) (v4:=.slice none 0 0) (v5:=.slice none 0 0) (v6:=.slice none 0 0) HS0.out.res
  have hz:∀j v,#[Value.int .i64 op,.int .i64 0,.int .i64 0,.int .i64 0,.slice none 0 0,.slice none 0 0,.slice none 0 0][j]?=some v->(out7 _ w.heap.size (.int .i64 op) (.int .i64 0) (.int .i64 0) (.int .i64 0) (.slice none 0 0) (.slice none 0 0) (.slice none 0 0)).cell? ⟨w.heap.size,j,none⟩=some v:=fun j v hv=>by unfold World.cell?;rw [z];exact hv
  have z0:=hz 0 _ rfl
  have z1:=hz 1 _ rfl
  have z2:=hz 2 _ rfl
  have z3:=hz 3 _ rfl
  have z4:=hz 4 _ rfl
  have z5:=hz 5 _ rfl
  have z6:=hz 6 _ rfl
  unfold out7 at z0 z1 z2 z3 z4 z5 z6
  exact bodyPost_ret (v:=.agg #[.int .i64 op,.int .i64 0,.int .i64 0,.int .i64 0,.slice none 0 0,.slice none 0 0,.slice none 0 0]) (by simp [results,Tryd.results59,go_sem,z0,z1,z2,z3,z4,z5,z6]) rfl
   ⟨⟨_,rfl,_,_,_,_,_,_,_,_,_,rfl,ints_nil _ _,at_nil _ _ d,at_nil _ _ d⟩,(HS0.out.fin _ _ _ _ _ _ _).1,(HS0.out.fin _ _ _ _ _ _ _).2⟩
set_option maxRecDepth 100000 in
set_option maxHeartbeats 4000000 in
theorem dSim4 (hf:form op=4):Calls Tryd.prog 59 #[.pointer (some ⟨p,0,none⟩),.int .i64 op] w (Rds w0 p s c en k n (vIns w.heap.size d) w (rsim (none_ d) s en op i)):=by
 have e0:rsim (none_ d) s en op i=bd (ru s en i) fun y0 q0=>.ok ({ op:=op,a:=y0,b:=0,n:=0,labels:=[],body:=none_ d,els:=none_ d },q0):=by unfold rsim;simp only;rw [if_neg (by omega),if_pos (.inl hf)]
 rw [e0]
 clear e0
 have H:=hideR h
 have HF:=fun u=>hideR (formT op u)
 simp only [hf] at HF
 clear hf
 clear h
 cases hx0:ru s en i with
 | error z =>
  rw [bd_err]
  go_enter Tryd.func59,Tryd.ntmps59
  go_wp2_with fail
  refine (HF _).out.mono ?_
  rintro e u ⟨rfl,hb⟩
  have HS:=hideR (SI.start H.out op 0 hb)
  clear hb HF
  have hc0:=dUns w0 p s c en k i n u HS.out.rs
  rw [hx0] at hc0
  have HC0:=hideR hc0
  clear hc0
  go_wp2_with fail
  refine HC0.out.mono ?_
  rintro e w1 ⟨rfl,hb⟩
  exact ⟨rfl,rfl,hb⟩
 | ok v =>
  obtain ⟨y0,q0⟩:=v
  rw [bd_ok]
  go_enter Tryd.func59,Tryd.ntmps59
  go_wp2_with fail
  refine (HF _).out.mono ?_
  rintro e u ⟨rfl,hb⟩
  have HS:=hideR (SI.start H.out op 0 hb)
  clear hb HF
  have hc0:=dUns w0 p s c en k i n u HS.out.rs
  rw [hx0] at hc0
  have HC0:=hideR hc0
  clear hc0
  go_wp2_with fail
  refine HC0.out.mono ?_
  rintro e u0 ⟨⟨v0,rfl,hv0⟩,h1,h2⟩
  have hv0:v0=.int .i64 y0:=hv0
  subst hv0
  have HS0:=hideR (HS.out.call h1 h2)
  clear h1 h2 HC0
  have fx0:=HS0.out.x.cell 1 _ rfl
  have fy0:=HS0.out.x.frz 1
  obtain ⟨t0,ht0⟩:∃t,t=u0.setCell ⟨w.heap.size+1,1,none⟩ (.int .i64 y0):=⟨_,rfl⟩
  have HT0:=hideR (HS0.out.set1 y0)
  rw [<- ht0] at HT0
  have HE0:=hideR ht0
  clear ht0
  go_upto_region 20 with fail
  rw [<- HE0.out]
  clear HE0 fx0 fy0 HS0
  have x0:=HT0.out.x.cell 0 _ rfl
  have x1:=HT0.out.x.cell 1 _ rfl
  have x2:=HT0.out.x.cell 2 _ rfl
  have x3:=HT0.out.x.cell 3 _ rfl
  have x4:=HT0.out.x.cell 4 _ rfl
  have x5:=HT0.out.x.cell 5 _ rfl
  have x6:=HT0.out.x.cell 6 _ rfl
  have r0:=HT0.out.res.cell 0 _ rfl
  have g0:=HT0.out.res.frz 0
  have r1:=HT0.out.res.cell 1 _ rfl
  have g1:=HT0.out.res.frz 1
  have r2:=HT0.out.res.cell 2 _ rfl
  have g2:=HT0.out.res.frz 2
  have r3:=HT0.out.res.cell 3 _ rfl
  have g3:=HT0.out.res.frz 3
  have r4:=HT0.out.res.cell 4 _ rfl
  have g4:=HT0.out.res.frz 4
  have r5:=HT0.out.res.cell 5 _ rfl
  have g5:=HT0.out.res.frz 5
  have r6:=HT0.out.res.cell 6 _ rfl
  have g6:=HT0.out.res.frz 6
  go_wp2
  have z:=out7_blk (v0:=.int .i64 op) (v1:=.int .i64 y0) (v2:=.int .i64 0) (v3:=.int .i64 0) (v4:=.slice none 0 0) (v5:=.slice none 0 0) (v6:=.slice none 0 0) HT0.out.res
  have hz:∀j v,#[Value.int .i64 op,.int .i64 y0,.int .i64 0,.int .i64 0,.slice none 0 0,.slice none 0 0,.slice none 0 0][j]?=some v->(out7 _ w.heap.size (.int .i64 op) (.int .i64 y0) (.int .i64 0) (.int .i64 0) (.slice none 0 0) (.slice none 0 0) (.slice none 0 0)).cell? ⟨w.heap.size,j,none⟩=some v:=fun j v hv=>by unfold World.cell?;rw [z];exact hv
  have z0:=hz 0 _ rfl
  have z1:=hz 1 _ rfl
  have z2:=hz 2 _ rfl
  have z3:=hz 3 _ rfl
  have z4:=hz 4 _ rfl
  have z5:=hz 5 _ rfl
  have z6:=hz 6 _ rfl
  unfold out7 at z0 z1 z2 z3 z4 z5 z6
  exact bodyPost_ret (v:=.agg #[.int .i64 op,.int .i64 y0,.int .i64 0,.int .i64 0,.slice none 0 0,.slice none 0 0,.slice none 0 0]) (by simp [results,Tryd.results59,go_sem,z0,z1,z2,z3,z4,z5,z6]) rfl
   ⟨⟨_,rfl,_,_,_,_,_,_,_,_,_,rfl,ints_nil _ _,at_nil _ _ d,at_nil _ _ d⟩,(HT0.out.fin _ _ _ _ _ _ _).1,(HT0.out.fin _ _ _ _ _ _ _).2⟩
set_option maxRecDepth 100000 in
set_option maxHeartbeats 4000000 in
theorem dSim6 (hf:form op=6):Calls Tryd.prog 59 #[.pointer (some ⟨p,0,none⟩),.int .i64 op] w (Rds w0 p s c en k n (vIns w.heap.size d) w (rsim (none_ d) s en op i)):=by
 have e0:rsim (none_ d) s en op i=bd (ru s en i) fun y0 q0=>.ok ({ op:=op,a:=y0,b:=0,n:=0,labels:=[],body:=none_ d,els:=none_ d },q0):=by unfold rsim;simp only;rw [if_neg (by omega),if_pos (.inr hf)]
 rw [e0]
 clear e0
 have H:=hideR h
 have HF:=fun u=>hideR (formT op u)
 simp only [hf] at HF
 clear hf
 clear h
 cases hx0:ru s en i with
 | error z =>
  rw [bd_err]
  go_enter Tryd.func59,Tryd.ntmps59
  go_wp2_with fail
  refine (HF _).out.mono ?_
  rintro e u ⟨rfl,hb⟩
  have HS:=hideR (SI.start H.out op 0 hb)
  clear hb HF
  have hc0:=dUns w0 p s c en k i n u HS.out.rs
  rw [hx0] at hc0
  have HC0:=hideR hc0
  clear hc0
  go_wp2_with fail
  refine HC0.out.mono ?_
  rintro e w1 ⟨rfl,hb⟩
  exact ⟨rfl,rfl,hb⟩
 | ok v =>
  obtain ⟨y0,q0⟩:=v
  rw [bd_ok]
  go_enter Tryd.func59,Tryd.ntmps59
  go_wp2_with fail
  refine (HF _).out.mono ?_
  rintro e u ⟨rfl,hb⟩
  have HS:=hideR (SI.start H.out op 0 hb)
  clear hb HF
  have hc0:=dUns w0 p s c en k i n u HS.out.rs
  rw [hx0] at hc0
  have HC0:=hideR hc0
  clear hc0
  go_wp2_with fail
  refine HC0.out.mono ?_
  rintro e u0 ⟨⟨v0,rfl,hv0⟩,h1,h2⟩
  have hv0:v0=.int .i64 y0:=hv0
  subst hv0
  have HS0:=hideR (HS.out.call h1 h2)
  clear h1 h2 HC0
  have fx0:=HS0.out.x.cell 1 _ rfl
  have fy0:=HS0.out.x.frz 1
  obtain ⟨t0,ht0⟩:∃t,t=u0.setCell ⟨w.heap.size+1,1,none⟩ (.int .i64 y0):=⟨_,rfl⟩
  have HT0:=hideR (HS0.out.set1 y0)
  rw [<- ht0] at HT0
  have HE0:=hideR ht0
  clear ht0
  go_upto_region 20 with fail
  rw [<- HE0.out]
  clear HE0 fx0 fy0 HS0
  have x0:=HT0.out.x.cell 0 _ rfl
  have x1:=HT0.out.x.cell 1 _ rfl
  have x2:=HT0.out.x.cell 2 _ rfl
  have x3:=HT0.out.x.cell 3 _ rfl
  have x4:=HT0.out.x.cell 4 _ rfl
  have x5:=HT0.out.x.cell 5 _ rfl
  have x6:=HT0.out.x.cell 6 _ rfl
  have r0:=HT0.out.res.cell 0 _ rfl
  have g0:=HT0.out.res.frz 0
  have r1:=HT0.out.res.cell 1 _ rfl
  have g1:=HT0.out.res.frz 1
  have r2:=HT0.out.res.cell 2 _ rfl
  have g2:=HT0.out.res.frz 2
  have r3:=HT0.out.res.cell 3 _ rfl
  have g3:=HT0.out.res.frz 3
  have r4:=HT0.out.res.cell 4 _ rfl
  have g4:=HT0.out.res.frz 4
  have r5:=HT0.out.res.cell 5 _ rfl
  have g5:=HT0.out.res.frz 5
  have r6:=HT0.out.res.cell 6 _ rfl
  have g6:=HT0.out.res.frz 6
  go_wp2
  have z:=out7_blk (v0:=.int .i64 op) (v1:=.int .i64 y0) (v2:=.int .i64 0) (v3:=.int .i64 0) (v4:=.slice none 0 0) (v5:=.slice none 0 0) (v6:=.slice none 0 0) HT0.out.res
  have hz:∀j v,#[Value.int .i64 op,.int .i64 y0,.int .i64 0,.int .i64 0,.slice none 0 0,.slice none 0 0,.slice none 0 0][j]?=some v->(out7 _ w.heap.size (.int .i64 op) (.int .i64 y0) (.int .i64 0) (.int .i64 0) (.slice none 0 0) (.slice none 0 0) (.slice none 0 0)).cell? ⟨w.heap.size,j,none⟩=some v:=fun j v hv=>by unfold World.cell?;rw [z];exact hv
  have z0:=hz 0 _ rfl
  have z1:=hz 1 _ rfl
  have z2:=hz 2 _ rfl
  have z3:=hz 3 _ rfl
  have z4:=hz 4 _ rfl
  have z5:=hz 5 _ rfl
  have z6:=hz 6 _ rfl
  unfold out7 at z0 z1 z2 z3 z4 z5 z6
  exact bodyPost_ret (v:=.agg #[.int .i64 op,.int .i64 y0,.int .i64 0,.int .i64 0,.slice none 0 0,.slice none 0 0,.slice none 0 0]) (by simp [results,Tryd.results59,go_sem,z0,z1,z2,z3,z4,z5,z6]) rfl
   ⟨⟨_,rfl,_,_,_,_,_,_,_,_,_,rfl,ints_nil _ _,at_nil _ _ d,at_nil _ _ d⟩,(HT0.out.fin _ _ _ _ _ _ _).1,(HT0.out.fin _ _ _ _ _ _ _).2⟩
set_option maxRecDepth 100000 in
set_option maxHeartbeats 4000000 in
theorem dSim5 (hf:form op=5):Calls Tryd.prog 59 #[.pointer (some ⟨p,0,none⟩),.int .i64 op] w (Rds w0 p s c en k n (vIns w.heap.size d) w (rsim (none_ d) s en op i)):=by
 have e0:rsim (none_ d) s en op i=bd (rl s en i) fun y0 q0=>bd (ru s en q0) fun y1 q1=>.ok ({ op:=op,a:=y1,b:=0,n:=0,labels:=y0,body:=none_ d,els:=none_ d },q1):=by unfold rsim;simp only;rw [if_neg (by omega),if_neg (by omega),if_pos hf]
 rw [e0]
 clear e0
 have H:=hideR h
 have HF:=fun u=>hideR (formT op u)
 simp only [hf] at HF
 clear hf
 clear h
 cases hx0:rl s en i with
 | error z =>
  rw [bd_err]
  go_enter Tryd.func59,Tryd.ntmps59
  go_wp2_with fail
  refine (HF _).out.mono ?_
  rintro e u ⟨rfl,hb⟩
  have HS:=hideR (SI.start H.out op 0 hb)
  clear hb HF
  have hc0:=dInts w0 p s c en k i n u HS.out.rs
  rw [hx0] at hc0
  have HC0:=hideR hc0
  clear hc0
  go_wp2_with fail
  refine HC0.out.mono ?_
  rintro e w1 ⟨rfl,hb⟩
  exact ⟨rfl,rfl,hb⟩
 | ok v =>
  obtain ⟨y0,q0⟩:=v
  rw [bd_ok]
  cases hx1:ru s en q0 with
  | error z =>
   rw [bd_err]
   go_enter Tryd.func59,Tryd.ntmps59
   go_wp2_with fail
   refine (HF _).out.mono ?_
   rintro e u ⟨rfl,hb⟩
   have HS:=hideR (SI.start H.out op 0 hb)
   clear hb HF
   have hc0:=dInts w0 p s c en k i n u HS.out.rs
   rw [hx0] at hc0
   have HC0:=hideR hc0
   clear hc0
   go_wp2_with fail
   refine HC0.out.mono ?_
   rintro e u0 ⟨⟨v0,rfl,hv0⟩,h1,h2⟩
   have hv5:IntsS u0 (Since u.heap.size u0 none) v0 y0:=hv0
   obtain ⟨o4,k4,hv4⟩:=Row.len hv5.at
   clear hv5
   subst hv4
   obtain ⟨B4,hB4,hB5⟩:∃B4,B4=u.heap.size/\w.heap.size+1<B4:=⟨_,rfl,by have:=HS.out.x.lt;omega⟩
   have HV:=hideR hv0
   unfold vInts at HV
   rw [<- hB4] at HV
   clear hv0 hB4
   generalize hl4:y0.length=n4 at *
   have HS0:=hideR (HS.out.call h1 h2)
   clear h1 h2 HC0
   have fx0:=HS0.out.x.cell 4 _ rfl
   have fy0:=HS0.out.x.frz 4
   obtain ⟨t0,ht0⟩:∃t,t=u0.setCell ⟨w.heap.size+1,4,none⟩ (.slice o4 n4 k4):=⟨_,rfl⟩
   have HT0:=hideR (HS0.out.set4 (.slice o4 n4 k4))
   rw [<- ht0] at HT0
   have HV:=hideR (HV.out.keep (since_set (r:=w.heap.size+1) (j:=4) (v:=.slice o4 n4 k4) (by omega) (Nat.le_refl _)))
   rw [<- ht0] at HV
   have HE0:=hideR ht0
   clear ht0
   go_upto_region 11 with fail
   rw [<- HE0.out]
   clear HE0 fx0 fy0 HS0
   have hc1:=dUns w0 p s c en k q0 n t0 HT0.out.rs
   rw [hx1] at hc1
   have HC1:=hideR hc1
   clear hc1
   go_wp2_with fail
   refine HC1.out.mono ?_
   rintro e w1 ⟨rfl,hb⟩
   exact ⟨rfl,rfl,hb⟩
  | ok v =>
   obtain ⟨y1,q1⟩:=v
   rw [bd_ok]
   go_enter Tryd.func59,Tryd.ntmps59
   go_wp2_with fail
   refine (HF _).out.mono ?_
   rintro e u ⟨rfl,hb⟩
   have HS:=hideR (SI.start H.out op 0 hb)
   clear hb HF
   have hc0:=dInts w0 p s c en k i n u HS.out.rs
   rw [hx0] at hc0
   have HC0:=hideR hc0
   clear hc0
   go_wp2_with fail
   refine HC0.out.mono ?_
   rintro e u0 ⟨⟨v0,rfl,hv0⟩,h1,h2⟩
   have hv5:IntsS u0 (Since u.heap.size u0 none) v0 y0:=hv0
   obtain ⟨o4,k4,hv4⟩:=Row.len hv5.at
   clear hv5
   subst hv4
   obtain ⟨B4,hB4,hB5⟩:∃B4,B4=u.heap.size/\w.heap.size+1<B4:=⟨_,rfl,by have:=HS.out.x.lt;omega⟩
   have HV:=hideR hv0
   unfold vInts at HV
   rw [<- hB4] at HV
   clear hv0 hB4
   generalize hl4:y0.length=n4 at *
   have HS0:=hideR (HS.out.call h1 h2)
   clear h1 h2 HC0
   have fx0:=HS0.out.x.cell 4 _ rfl
   have fy0:=HS0.out.x.frz 4
   obtain ⟨t0,ht0⟩:∃t,t=u0.setCell ⟨w.heap.size+1,4,none⟩ (.slice o4 n4 k4):=⟨_,rfl⟩
   have HT0:=hideR (HS0.out.set4 (.slice o4 n4 k4))
   rw [<- ht0] at HT0
   have HV:=hideR (HV.out.keep (since_set (r:=w.heap.size+1) (j:=4) (v:=.slice o4 n4 k4) (by omega) (Nat.le_refl _)))
   rw [<- ht0] at HV
   have HE0:=hideR ht0
   clear ht0
   go_upto_region 11 with fail
   rw [<- HE0.out]
   clear HE0 fx0 fy0 HS0
   have hc1:=dUns w0 p s c en k q0 n t0 HT0.out.rs
   rw [hx1] at hc1
   have HC1:=hideR hc1
   clear hc1
   go_wp2_with fail
   refine HC1.out.mono ?_
   rintro e u1 ⟨⟨v1,rfl,hv1⟩,h1,h2⟩
   have hv1:v1=.int .i64 y1:=hv1
   subst hv1
   have HS1:=hideR (HT0.out.call h1 h2)
   have HV:=hideR (HV.out.keep (since_but (by have:=HT0.out.pw;omega) h2))
   clear h1 h2 HC1
   have fx1:=HS1.out.x.cell 1 _ rfl
   have fy1:=HS1.out.x.frz 1
   obtain ⟨t1,ht1⟩:∃t,t=u1.setCell ⟨w.heap.size+1,1,none⟩ (.int .i64 y1):=⟨_,rfl⟩
   have HT1:=hideR (HS1.out.set1 y1)
   rw [<- ht1] at HT1
   have HV:=hideR (HV.out.keep (since_set (r:=w.heap.size+1) (j:=1) (v:=.int .i64 y1) (by omega) (Nat.le_refl _)))
   rw [<- ht1] at HV
   have HE1:=hideR ht1
   clear ht1
   go_upto_region 20 with fail
   rw [<- HE1.out]
   clear HE1 fx1 fy1 HS1
   have x0:=HT1.out.x.cell 0 _ rfl
   have x1:=HT1.out.x.cell 1 _ rfl
   have x2:=HT1.out.x.cell 2 _ rfl
   have x3:=HT1.out.x.cell 3 _ rfl
   have x4:=HT1.out.x.cell 4 _ rfl
   have x5:=HT1.out.x.cell 5 _ rfl
   have x6:=HT1.out.x.cell 6 _ rfl
   have r0:=HT1.out.res.cell 0 _ rfl
   have g0:=HT1.out.res.frz 0
   have r1:=HT1.out.res.cell 1 _ rfl
   have g1:=HT1.out.res.frz 1
   have r2:=HT1.out.res.cell 2 _ rfl
   have g2:=HT1.out.res.frz 2
   have r3:=HT1.out.res.cell 3 _ rfl
   have g3:=HT1.out.res.frz 3
   have r4:=HT1.out.res.cell 4 _ rfl
   have g4:=HT1.out.res.frz 4
   have r5:=HT1.out.res.cell 5 _ rfl
   have g5:=HT1.out.res.frz 5
   have r6:=HT1.out.res.cell 6 _ rfl
   have g6:=HT1.out.res.frz 6
   go_wp2
   have z:=out7_blk (v0:=.int .i64 op) (v1:=.int .i64 y1) (v2:=.int .i64 0) (v3:=.int .i64 0) (v4:=.slice o4 n4 k4) (v5:=.slice none 0 0) (v6:=.slice none 0 0) HT1.out.res
   have hz:∀j v,#[Value.int .i64 op,.int .i64 y1,.int .i64 0,.int .i64 0,.slice o4 n4 k4,.slice none 0 0,.slice none 0 0][j]?=some v->(out7 _ w.heap.size (.int .i64 op) (.int .i64 y1) (.int .i64 0) (.int .i64 0) (.slice o4 n4 k4) (.slice none 0 0) (.slice none 0 0)).cell? ⟨w.heap.size,j,none⟩=some v:=fun j v hv=>by unfold World.cell?;rw [z];exact hv
   have z0:=hz 0 _ rfl
   have z1:=hz 1 _ rfl
   have z2:=hz 2 _ rfl
   have z3:=hz 3 _ rfl
   have z4:=hz 4 _ rfl
   have z5:=hz 5 _ rfl
   have z6:=hz 6 _ rfl
   unfold out7 at z0 z1 z2 z3 z4 z5 z6
   exact bodyPost_ret (v:=.agg #[.int .i64 op,.int .i64 y1,.int .i64 0,.int .i64 0,.slice o4 n4 k4,.slice none 0 0,.slice none 0 0]) (by simp [results,Tryd.results59,go_sem,z0,z1,z2,z3,z4,z5,z6]) rfl
    ⟨⟨_,rfl,_,_,_,_,_,_,_,_,_,rfl,HV.out.keep (since_out (by omega) (by omega)),at_nil _ _ d,at_nil _ _ d⟩,(HT1.out.fin _ _ _ _ _ _ _).1,(HT1.out.fin _ _ _ _ _ _ _).2⟩
set_option maxRecDepth 100000 in
set_option maxHeartbeats 4000000 in
theorem dSim7 (hf:form op=7):Calls Tryd.prog 59 #[.pointer (some ⟨p,0,none⟩),.int .i64 op] w (Rds w0 p s c en k n (vIns w.heap.size d) w (rsim (none_ d) s en op i)):=by
 have e0:rsim (none_ d) s en op i=bd (ru s en i) fun y0 q0=>bd (must s en 0 q0) fun _ q1=>.ok ({ op:=op,a:=y0,b:=0,n:=0,labels:=[],body:=none_ d,els:=none_ d },q1):=by unfold rsim;simp only;rw [if_neg (by omega),if_neg (by omega),if_neg (by omega),if_pos hf]
 rw [e0]
 clear e0
 have H:=hideR h
 have HF:=fun u=>hideR (formT op u)
 simp only [hf] at HF
 clear hf
 clear h
 cases hx0:ru s en i with
 | error z =>
  rw [bd_err]
  go_enter Tryd.func59,Tryd.ntmps59
  go_wp2_with fail
  refine (HF _).out.mono ?_
  rintro e u ⟨rfl,hb⟩
  have HS:=hideR (SI.start H.out op 0 hb)
  clear hb HF
  have hc0:=dUns w0 p s c en k i n u HS.out.rs
  rw [hx0] at hc0
  have HC0:=hideR hc0
  clear hc0
  go_wp2_with fail
  refine HC0.out.mono ?_
  rintro e w1 ⟨rfl,hb⟩
  exact ⟨rfl,rfl,hb⟩
 | ok v =>
  obtain ⟨y0,q0⟩:=v
  rw [bd_ok]
  cases hx1:must s en 0 q0 with
  | error z =>
   rw [bd_err]
   go_enter Tryd.func59,Tryd.ntmps59
   go_wp2_with fail
   refine (HF _).out.mono ?_
   rintro e u ⟨rfl,hb⟩
   have HS:=hideR (SI.start H.out op 0 hb)
   clear hb HF
   have hc0:=dUns w0 p s c en k i n u HS.out.rs
   rw [hx0] at hc0
   have HC0:=hideR hc0
   clear hc0
   go_wp2_with fail
   refine HC0.out.mono ?_
   rintro e u0 ⟨⟨v0,rfl,hv0⟩,h1,h2⟩
   have hv0:v0=.int .i64 y0:=hv0
   subst hv0
   have HS0:=hideR (HS.out.call h1 h2)
   clear h1 h2 HC0
   have fx0:=HS0.out.x.cell 1 _ rfl
   have fy0:=HS0.out.x.frz 1
   obtain ⟨t0,ht0⟩:∃t,t=u0.setCell ⟨w.heap.size+1,1,none⟩ (.int .i64 y0):=⟨_,rfl⟩
   have HT0:=hideR (HS0.out.set1 y0)
   rw [<- ht0] at HT0
   have HE0:=hideR ht0
   clear ht0
   go_upto_region 14 with fail
   rw [<- HE0.out]
   clear HE0 fx0 fy0 HS0
   have hc1:=dMust w0 p s c en k q0 n t0 HT0.out.rs 0
   rw [hx1] at hc1
   have HC1:=hideR hc1
   clear hc1
   go_wp2_with fail
   refine HC1.out.mono ?_
   rintro e w1 ⟨rfl,hb⟩
   exact ⟨rfl,rfl,hb⟩
  | ok v =>
   obtain ⟨y1,q1⟩:=v
   rw [bd_ok]
   go_enter Tryd.func59,Tryd.ntmps59
   go_wp2_with fail
   refine (HF _).out.mono ?_
   rintro e u ⟨rfl,hb⟩
   have HS:=hideR (SI.start H.out op 0 hb)
   clear hb HF
   have hc0:=dUns w0 p s c en k i n u HS.out.rs
   rw [hx0] at hc0
   have HC0:=hideR hc0
   clear hc0
   go_wp2_with fail
   refine HC0.out.mono ?_
   rintro e u0 ⟨⟨v0,rfl,hv0⟩,h1,h2⟩
   have hv0:v0=.int .i64 y0:=hv0
   subst hv0
   have HS0:=hideR (HS.out.call h1 h2)
   clear h1 h2 HC0
   have fx0:=HS0.out.x.cell 1 _ rfl
   have fy0:=HS0.out.x.frz 1
   obtain ⟨t0,ht0⟩:∃t,t=u0.setCell ⟨w.heap.size+1,1,none⟩ (.int .i64 y0):=⟨_,rfl⟩
   have HT0:=hideR (HS0.out.set1 y0)
   rw [<- ht0] at HT0
   have HE0:=hideR ht0
   clear ht0
   go_upto_region 14 with fail
   rw [<- HE0.out]
   clear HE0 fx0 fy0 HS0
   have hc1:=dMust w0 p s c en k q0 n t0 HT0.out.rs 0
   rw [hx1] at hc1
   have HC1:=hideR hc1
   clear hc1
   go_wp2_with fail
   refine HC1.out.mono ?_
   rintro e u1 ⟨⟨v1,rfl,hv1⟩,h1,h2⟩
   have hv1:v1=.tuple #[]:=hv1
   subst hv1
   have HS1:=hideR (HT0.out.call h1 h2)
   clear h1 h2 HC1
   have x0:=HS1.out.x.cell 0 _ rfl
   have x1:=HS1.out.x.cell 1 _ rfl
   have x2:=HS1.out.x.cell 2 _ rfl
   have x3:=HS1.out.x.cell 3 _ rfl
   have x4:=HS1.out.x.cell 4 _ rfl
   have x5:=HS1.out.x.cell 5 _ rfl
   have x6:=HS1.out.x.cell 6 _ rfl
   have r0:=HS1.out.res.cell 0 _ rfl
   have g0:=HS1.out.res.frz 0
   have r1:=HS1.out.res.cell 1 _ rfl
   have g1:=HS1.out.res.frz 1
   have r2:=HS1.out.res.cell 2 _ rfl
   have g2:=HS1.out.res.frz 2
   have r3:=HS1.out.res.cell 3 _ rfl
   have g3:=HS1.out.res.frz 3
   have r4:=HS1.out.res.cell 4 _ rfl
   have g4:=HS1.out.res.frz 4
   have r5:=HS1.out.res.cell 5 _ rfl
   have g5:=HS1.out.res.frz 5
   have r6:=HS1.out.res.cell 6 _ rfl
   have g6:=HS1.out.res.frz 6
   go_wp2
   have z:=out7_blk (v0:=.int .i64 op) (v1:=.int .i64 y0) (v2:=.int .i64 0) (v3:=.int .i64 0) (v4:=.slice none 0 0) (v5:=.slice none 0 0) (v6:=.slice none 0 0) HS1.out.res
   have hz:∀j v,#[Value.int .i64 op,.int .i64 y0,.int .i64 0,.int .i64 0,.slice none 0 0,.slice none 0 0,.slice none 0 0][j]?=some v->(out7 _ w.heap.size (.int .i64 op) (.int .i64 y0) (.int .i64 0) (.int .i64 0) (.slice none 0 0) (.slice none 0 0) (.slice none 0 0)).cell? ⟨w.heap.size,j,none⟩=some v:=fun j v hv=>by unfold World.cell?;rw [z];exact hv
   have z0:=hz 0 _ rfl
   have z1:=hz 1 _ rfl
   have z2:=hz 2 _ rfl
   have z3:=hz 3 _ rfl
   have z4:=hz 4 _ rfl
   have z5:=hz 5 _ rfl
   have z6:=hz 6 _ rfl
   unfold out7 at z0 z1 z2 z3 z4 z5 z6
   exact bodyPost_ret (v:=.agg #[.int .i64 op,.int .i64 y0,.int .i64 0,.int .i64 0,.slice none 0 0,.slice none 0 0,.slice none 0 0]) (by simp [results,Tryd.results59,go_sem,z0,z1,z2,z3,z4,z5,z6]) rfl
    ⟨⟨_,rfl,_,_,_,_,_,_,_,_,_,rfl,ints_nil _ _,at_nil _ _ d,at_nil _ _ d⟩,(HS1.out.fin _ _ _ _ _ _ _).1,(HS1.out.fin _ _ _ _ _ _ _).2⟩
set_option maxRecDepth 100000 in
set_option maxHeartbeats 4000000 in
theorem dSim8 (hf:form op=8):Calls Tryd.prog 59 #[.pointer (some ⟨p,0,none⟩),.int .i64 op] w (Rds w0 p s c en k n (vIns w.heap.size d) w (rsim (none_ d) s en op i)):=by
 have e0:rsim (none_ d) s en op i=bd (ru s en i) fun y0 q0=>bd (ru s en q0) fun y1 q1=>.ok ({ op:=op,a:=y0,b:=y1,n:=0,labels:=[],body:=none_ d,els:=none_ d },q1):=by unfold rsim;simp only;rw [if_neg (by omega),if_neg (by omega),if_neg (by omega),if_neg (by omega),if_pos hf]
 rw [e0]
 clear e0
 have H:=hideR h
 have HF:=fun u=>hideR (formT op u)
 simp only [hf] at HF
 clear hf
 clear h
 cases hx0:ru s en i with
 | error z =>
  rw [bd_err]
  go_enter Tryd.func59,Tryd.ntmps59
  go_wp2_with fail
  refine (HF _).out.mono ?_
  rintro e u ⟨rfl,hb⟩
  have HS:=hideR (SI.start H.out op 0 hb)
  clear hb HF
  have hc0:=dUns w0 p s c en k i n u HS.out.rs
  rw [hx0] at hc0
  have HC0:=hideR hc0
  clear hc0
  go_wp2_with fail
  refine HC0.out.mono ?_
  rintro e w1 ⟨rfl,hb⟩
  exact ⟨rfl,rfl,hb⟩
 | ok v =>
  obtain ⟨y0,q0⟩:=v
  rw [bd_ok]
  cases hx1:ru s en q0 with
  | error z =>
   rw [bd_err]
   go_enter Tryd.func59,Tryd.ntmps59
   go_wp2_with fail
   refine (HF _).out.mono ?_
   rintro e u ⟨rfl,hb⟩
   have HS:=hideR (SI.start H.out op 0 hb)
   clear hb HF
   have hc0:=dUns w0 p s c en k i n u HS.out.rs
   rw [hx0] at hc0
   have HC0:=hideR hc0
   clear hc0
   go_wp2_with fail
   refine HC0.out.mono ?_
   rintro e u0 ⟨⟨v0,rfl,hv0⟩,h1,h2⟩
   have hv0:v0=.int .i64 y0:=hv0
   subst hv0
   have HS0:=hideR (HS.out.call h1 h2)
   clear h1 h2 HC0
   have fx0:=HS0.out.x.cell 1 _ rfl
   have fy0:=HS0.out.x.frz 1
   obtain ⟨t0,ht0⟩:∃t,t=u0.setCell ⟨w.heap.size+1,1,none⟩ (.int .i64 y0):=⟨_,rfl⟩
   have HT0:=hideR (HS0.out.set1 y0)
   rw [<- ht0] at HT0
   have HE0:=hideR ht0
   clear ht0
   go_upto_region 17 with fail
   rw [<- HE0.out]
   clear HE0 fx0 fy0 HS0
   have hc1:=dUns w0 p s c en k q0 n t0 HT0.out.rs
   rw [hx1] at hc1
   have HC1:=hideR hc1
   clear hc1
   go_wp2_with fail
   refine HC1.out.mono ?_
   rintro e w1 ⟨rfl,hb⟩
   exact ⟨rfl,rfl,hb⟩
  | ok v =>
   obtain ⟨y1,q1⟩:=v
   rw [bd_ok]
   go_enter Tryd.func59,Tryd.ntmps59
   go_wp2_with fail
   refine (HF _).out.mono ?_
   rintro e u ⟨rfl,hb⟩
   have HS:=hideR (SI.start H.out op 0 hb)
   clear hb HF
   have hc0:=dUns w0 p s c en k i n u HS.out.rs
   rw [hx0] at hc0
   have HC0:=hideR hc0
   clear hc0
   go_wp2_with fail
   refine HC0.out.mono ?_
   rintro e u0 ⟨⟨v0,rfl,hv0⟩,h1,h2⟩
   have hv0:v0=.int .i64 y0:=hv0
   subst hv0
   have HS0:=hideR (HS.out.call h1 h2)
   clear h1 h2 HC0
   have fx0:=HS0.out.x.cell 1 _ rfl
   have fy0:=HS0.out.x.frz 1
   obtain ⟨t0,ht0⟩:∃t,t=u0.setCell ⟨w.heap.size+1,1,none⟩ (.int .i64 y0):=⟨_,rfl⟩
   have HT0:=hideR (HS0.out.set1 y0)
   rw [<- ht0] at HT0
   have HE0:=hideR ht0
   clear ht0
   go_upto_region 17 with fail
   rw [<- HE0.out]
   clear HE0 fx0 fy0 HS0
   have hc1:=dUns w0 p s c en k q0 n t0 HT0.out.rs
   rw [hx1] at hc1
   have HC1:=hideR hc1
   clear hc1
   go_wp2_with fail
   refine HC1.out.mono ?_
   rintro e u1 ⟨⟨v1,rfl,hv1⟩,h1,h2⟩
   have hv1:v1=.int .i64 y1:=hv1
   subst hv1
   have HS1:=hideR (HT0.out.call h1 h2)
   clear h1 h2 HC1
   have fx1:=HS1.out.x.cell 2 _ rfl
   have fy1:=HS1.out.x.frz 2
   obtain ⟨t1,ht1⟩:∃t,t=u1.setCell ⟨w.heap.size+1,2,none⟩ (.int .i64 y1):=⟨_,rfl⟩
   have HT1:=hideR (HS1.out.set2 y1)
   rw [<- ht1] at HT1
   have HE1:=hideR ht1
   clear ht1
   go_upto_region 20 with fail
   rw [<- HE1.out]
   clear HE1 fx1 fy1 HS1
   have x0:=HT1.out.x.cell 0 _ rfl
   have x1:=HT1.out.x.cell 1 _ rfl
   have x2:=HT1.out.x.cell 2 _ rfl
   have x3:=HT1.out.x.cell 3 _ rfl
   have x4:=HT1.out.x.cell 4 _ rfl
   have x5:=HT1.out.x.cell 5 _ rfl
   have x6:=HT1.out.x.cell 6 _ rfl
   have r0:=HT1.out.res.cell 0 _ rfl
   have g0:=HT1.out.res.frz 0
   have r1:=HT1.out.res.cell 1 _ rfl
   have g1:=HT1.out.res.frz 1
   have r2:=HT1.out.res.cell 2 _ rfl
   have g2:=HT1.out.res.frz 2
   have r3:=HT1.out.res.cell 3 _ rfl
   have g3:=HT1.out.res.frz 3
   have r4:=HT1.out.res.cell 4 _ rfl
   have g4:=HT1.out.res.frz 4
   have r5:=HT1.out.res.cell 5 _ rfl
   have g5:=HT1.out.res.frz 5
   have r6:=HT1.out.res.cell 6 _ rfl
   have g6:=HT1.out.res.frz 6
   go_wp2
   have z:=out7_blk (v0:=.int .i64 op) (v1:=.int .i64 y0) (v2:=.int .i64 y1) (v3:=.int .i64 0) (v4:=.slice none 0 0) (v5:=.slice none 0 0) (v6:=.slice none 0 0) HT1.out.res
   have hz:∀j v,#[Value.int .i64 op,.int .i64 y0,.int .i64 y1,.int .i64 0,.slice none 0 0,.slice none 0 0,.slice none 0 0][j]?=some v->(out7 _ w.heap.size (.int .i64 op) (.int .i64 y0) (.int .i64 y1) (.int .i64 0) (.slice none 0 0) (.slice none 0 0) (.slice none 0 0)).cell? ⟨w.heap.size,j,none⟩=some v:=fun j v hv=>by unfold World.cell?;rw [z];exact hv
   have z0:=hz 0 _ rfl
   have z1:=hz 1 _ rfl
   have z2:=hz 2 _ rfl
   have z3:=hz 3 _ rfl
   have z4:=hz 4 _ rfl
   have z5:=hz 5 _ rfl
   have z6:=hz 6 _ rfl
   unfold out7 at z0 z1 z2 z3 z4 z5 z6
   exact bodyPost_ret (v:=.agg #[.int .i64 op,.int .i64 y0,.int .i64 y1,.int .i64 0,.slice none 0 0,.slice none 0 0,.slice none 0 0]) (by simp [results,Tryd.results59,go_sem,z0,z1,z2,z3,z4,z5,z6]) rfl
    ⟨⟨_,rfl,_,_,_,_,_,_,_,_,_,rfl,ints_nil _ _,at_nil _ _ d,at_nil _ _ d⟩,(HT1.out.fin _ _ _ _ _ _ _).1,(HT1.out.fin _ _ _ _ _ _ _).2⟩
set_option maxRecDepth 100000 in
set_option maxHeartbeats 4000000 in
theorem dSim9 (hf:form op=9) (bits:Int) (hbt:bits=if op=65 then 32 else 64):Calls Tryd.prog 59 #[.pointer (some ⟨p,0,none⟩),.int .i64 op] w (Rds w0 p s c en k n (vIns w.heap.size d) w (rsim (none_ d) s en op i)):=by
 have e0:rsim (none_ d) s en op i=bd (rs s en bits i) fun y0 q0=>.ok ({ op:=op,a:=0,b:=0,n:=y0,labels:=[],body:=none_ d,els:=none_ d },q0):=by unfold rsim;simp only;rw [if_neg (by omega),if_neg (by omega),if_neg (by omega),if_neg (by omega),if_neg (by omega),if_pos hf,<- hbt]
 rw [e0]
 clear e0
 have H:=hideR h
 have HF:=fun u=>hideR (formT op u)
 simp only [hf] at HF
 have hbits:bits=32\/bits=64:=by rw [hbt];split;exact .inl rfl;exact .inr rfl
 have HBT:=fun u=>hideR (bitsT op u)
 rw [<- hbt] at HBT
 clear hf hbt
 clear h
 cases hx0:rs s en bits i with
 | error z =>
  rw [bd_err]
  go_enter Tryd.func59,Tryd.ntmps59
  go_wp2_with fail
  refine (HF _).out.mono ?_
  rintro e u ⟨rfl,hb⟩
  have HS:=hideR (SI.start H.out op 0 hb)
  clear hb HF
  have hc0:=dSig w0 p s c en k i n u HS.out.rs bits hbits
  rw [hx0] at hc0
  have HC0:=hideR hc0
  clear hc0
  go_wp2_with fail
  refine (HBT _).out.mono ?_
  rintro e ub ⟨rfl,rfl⟩
  go_wp2_with fail
  refine HC0.out.mono ?_
  rintro e w1 ⟨rfl,hb⟩
  exact ⟨rfl,rfl,hb⟩
 | ok v =>
  obtain ⟨y0,q0⟩:=v
  rw [bd_ok]
  go_enter Tryd.func59,Tryd.ntmps59
  go_wp2_with fail
  refine (HF _).out.mono ?_
  rintro e u ⟨rfl,hb⟩
  have HS:=hideR (SI.start H.out op 0 hb)
  clear hb HF
  have hc0:=dSig w0 p s c en k i n u HS.out.rs bits hbits
  rw [hx0] at hc0
  have HC0:=hideR hc0
  clear hc0
  go_wp2_with fail
  refine (HBT _).out.mono ?_
  rintro e ub ⟨rfl,rfl⟩
  go_wp2_with fail
  refine HC0.out.mono ?_
  rintro e u0 ⟨⟨v0,rfl,hv0⟩,h1,h2⟩
  have hv0:v0=.int .i64 y0:=hv0
  subst hv0
  have HS0:=hideR (HS.out.call h1 h2)
  clear h1 h2 HC0
  have fx0:=HS0.out.x.cell 3 _ rfl
  have fy0:=HS0.out.x.frz 3
  obtain ⟨t0,ht0⟩:∃t,t=u0.setCell ⟨w.heap.size+1,3,none⟩ (.int .i64 y0):=⟨_,rfl⟩
  have HT0:=hideR (HS0.out.set3 y0)
  rw [<- ht0] at HT0
  have HE0:=hideR ht0
  clear ht0
  go_upto_region 20 with fail
  rw [<- HE0.out]
  clear HE0 fx0 fy0 HS0
  have x0:=HT0.out.x.cell 0 _ rfl
  have x1:=HT0.out.x.cell 1 _ rfl
  have x2:=HT0.out.x.cell 2 _ rfl
  have x3:=HT0.out.x.cell 3 _ rfl
  have x4:=HT0.out.x.cell 4 _ rfl
  have x5:=HT0.out.x.cell 5 _ rfl
  have x6:=HT0.out.x.cell 6 _ rfl
  have r0:=HT0.out.res.cell 0 _ rfl
  have g0:=HT0.out.res.frz 0
  have r1:=HT0.out.res.cell 1 _ rfl
  have g1:=HT0.out.res.frz 1
  have r2:=HT0.out.res.cell 2 _ rfl
  have g2:=HT0.out.res.frz 2
  have r3:=HT0.out.res.cell 3 _ rfl
  have g3:=HT0.out.res.frz 3
  have r4:=HT0.out.res.cell 4 _ rfl
  have g4:=HT0.out.res.frz 4
  have r5:=HT0.out.res.cell 5 _ rfl
  have g5:=HT0.out.res.frz 5
  have r6:=HT0.out.res.cell 6 _ rfl
  have g6:=HT0.out.res.frz 6
  go_wp2
  have z:=out7_blk (v0:=.int .i64 op) (v1:=.int .i64 0) (v2:=.int .i64 0) (v3:=.int .i64 y0) (v4:=.slice none 0 0) (v5:=.slice none 0 0) (v6:=.slice none 0 0) HT0.out.res
  have hz:∀j v,#[Value.int .i64 op,.int .i64 0,.int .i64 0,.int .i64 y0,.slice none 0 0,.slice none 0 0,.slice none 0 0][j]?=some v->(out7 _ w.heap.size (.int .i64 op) (.int .i64 0) (.int .i64 0) (.int .i64 y0) (.slice none 0 0) (.slice none 0 0) (.slice none 0 0)).cell? ⟨w.heap.size,j,none⟩=some v:=fun j v hv=>by unfold World.cell?;rw [z];exact hv
  have z0:=hz 0 _ rfl
  have z1:=hz 1 _ rfl
  have z2:=hz 2 _ rfl
  have z3:=hz 3 _ rfl
  have z4:=hz 4 _ rfl
  have z5:=hz 5 _ rfl
  have z6:=hz 6 _ rfl
  unfold out7 at z0 z1 z2 z3 z4 z5 z6
  exact bodyPost_ret (v:=.agg #[.int .i64 op,.int .i64 0,.int .i64 0,.int .i64 y0,.slice none 0 0,.slice none 0 0,.slice none 0 0]) (by simp [results,Tryd.results59,go_sem,z0,z1,z2,z3,z4,z5,z6]) rfl
   ⟨⟨_,rfl,_,_,_,_,_,_,_,_,_,rfl,ints_nil _ _,at_nil _ _ d,at_nil _ _ d⟩,(HT0.out.fin _ _ _ _ _ _ _).1,(HT0.out.fin _ _ _ _ _ _ _).2⟩
theorem dSim (hf:1<=form op/\form op<=9) (h2:form op≠2) (h3:form op≠3):Calls Tryd.prog 59 #[.pointer (some ⟨p,0,none⟩),.int .i64 op] w (Rds w0 p s c en k n (vIns w.heap.size d) w (rsim (none_ d) s en op i)):=by
 by_cases f1:form op=1
 ·by_cases a:op=63
  ·exact dSim63 w0 p s c en k i n w h d op f1 a
  ·by_cases b:op=64
   ·exact dSim64 w0 p s c en k i n w h d op f1 b
   ·exact dSim1 w0 p s c en k i n w h d op f1 (by omega)
 by_cases f4:form op=4
 ·exact dSim4 w0 p s c en k i n w h d op f4
 by_cases f5:form op=5
 ·exact dSim5 w0 p s c en k i n w h d op f5
 by_cases f6:form op=6
 ·exact dSim6 w0 p s c en k i n w h d op f6
 by_cases f7:form op=7
 ·exact dSim7 w0 p s c en k i n w h d op f7
 by_cases f8:form op=8
 ·exact dSim8 w0 p s c en k i n w h d op f8
 ·exact dSim9 w0 p s c en k i n w h d op (by omega) _ rfl
end
end Go.Proofs.YtgbbmdknbflilaaDoor

