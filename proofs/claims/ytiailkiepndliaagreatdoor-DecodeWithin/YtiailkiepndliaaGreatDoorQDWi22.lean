/- Texts that the claim needs. -/
import Derived.Test.YtiailkiepndliaaGreatDoorQDWi21
import Derived.Test.YtiailkiepndliaaGreatDoorQDWi3
namespace Go.Proofs.YtiailkiepndliaaGreatDoor
open Go.RowKit Rep
set_option linter.unusedVariables false
namespace Rep
def okF (f op a b n:Int) (ls:List Int) (nb ne:Nat):Bool :=
 if f=1 then bare a b n ls.length nb ne
 else if f=2 then res a && bare 0 b n ls.length 0 ne
 else if f=3 then res a && bare 0 b n ls.length 0 0
 else if f=4\/f=6\/f=7 then idx a && bare 0 b n ls.length nb ne
 else if f=5 then idx a && ls.all idx && bare 0 b n 0 nb ne
 else if f=8 then (idx a && idx b) && bare 0 0 n ls.length nb ne
 else if f=9 then (op == 66 || (decide (-2147483648<=n) && decide (n<=2147483647))) && bare a b 0 ls.length nb ne
 else false
structure Two (w:World) (op a b n:Int) (lv bv ev:Value) (u:World):Prop where
 c0:u.cell? ⟨w.heap.size,0,none⟩=some (.int .i64 op)
 c1:u.cell? ⟨w.heap.size,1,none⟩=some (.int .i64 a)
 c2:u.cell? ⟨w.heap.size,2,none⟩=some (.int .i64 b)
 c3:u.cell? ⟨w.heap.size,3,none⟩=some (.int .i64 n)
 c4:u.cell? ⟨w.heap.size,4,none⟩=some lv
 c5:u.cell? ⟨w.heap.size,5,none⟩=some bv
 c6:u.cell? ⟨w.heap.size,6,none⟩=some ev
 e0:u.cell? ⟨w.heap.size+1,0,none⟩=some (.int .i64 op)
 e1:u.cell? ⟨w.heap.size+1,1,none⟩=some (.int .i64 a)
 e2:u.cell? ⟨w.heap.size+1,2,none⟩=some (.int .i64 b)
 e3:u.cell? ⟨w.heap.size+1,3,none⟩=some (.int .i64 n)
 e4:u.cell? ⟨w.heap.size+1,4,none⟩=some lv
 e5:u.cell? ⟨w.heap.size+1,5,none⟩=some bv
 e6:u.cell? ⟨w.heap.size+1,6,none⟩=some ev
 fz:∀i,u.frozen? ⟨w.heap.size+1,i,none⟩=false
 bel:Below w.heap.size w u
 sz:w.heap.size+2<=u.heap.size
theorem Two.on {w : World} {op a b n : Int} {lv bv ev : Value} {u u' : World} (hb : Below u.heap.size u u') (h : Two w op a b n lv bv ev u) : Two w op a b n lv bv ev u' :=
  ⟨cell_on hb h.c0, cell_on hb h.c1, cell_on hb h.c2, cell_on hb h.c3, cell_on hb h.c4, cell_on hb h.c5, cell_on hb h.c6,
   cell_on hb h.e0, cell_on hb h.e1, cell_on hb h.e2, cell_on hb h.e3, cell_on hb h.e4, cell_on hb h.e5, cell_on hb h.e6,
   fun i => (hb.frozen (p := ⟨w.heap.size + 1, i, none⟩) (by have := h.sz; show w.heap.size + 1 < _; omega)).trans (h.fz i), h.bel.trans (hb.mono h.bel.size), Nat.le_trans h.sz hb.size⟩
theorem Two.start (w:World) (t:TypeId) (op a b n:Int) (lv bv ev:Value) :
  Two w op a b n lv bv ev ((w.alloc (.cells #[.int .i64 op,.int .i64 a,.int .i64 b,.int .i64 n,lv,bv,ev] t)).alloc (.cells #[.int .i64 op,.int .i64 a,.int .i64 b,.int .i64 n,lv,bv,ev] t)):=by
 refine ⟨?_,?_,?_,?_,?_,?_,?_,?_,?_,?_,?_,?_,?_,?_,?_,((Below.refl _ w).alloc (Nat.le_refl _) _).alloc (by simp) _,by simp⟩
 all_goals first
  | (rw [World.cell?_alloc_past _ _ _ (by simp),World.cell?_alloc_at _ t _ _ rfl];rfl)
  | (rw [World.cell?_alloc_at _ t _ _ (by simp)];rfl)
  | (intro i;rw [World.frozen?_alloc_at _ t _ _ (by simp)])
theorem below_set {w u:World} (h:Below w.heap.size w u) (i:Nat) (v:Value):Below w.heap.size w (u.setCell ⟨w.heap.size+1,i,none⟩ v):=h.setCell (p:=⟨w.heap.size+1,i,none⟩) (by show w.heap.size<=w.heap.size+1;omega) v
theorem below_new {w u:World} (h:Below w.heap.size w u) (o:Obj):Below w.heap.size w (u.alloc o):=h.alloc h.size o
theorem below_go {w u v:World} (h:Below w.heap.size w u) (k:Below u.heap.size u v):Below w.heap.size w v:=h.trans (k.mono h.size)
end Rep
set_option maxHeartbeats 2000000 in
theorem pneedForm1 {I:World->Prop} (C:FormC I) (op a b n:Int) (ls:List Int) (lo bo eo:Option Addr) (nb ne lc bc ec:Nat) (w:World) (hf:form op=1) (hI:I w) (hl:Ints w (.slice lo ls.length lc) ls) :
  Calls Tryz.prog 33 #[.agg #[.int .i64 op,.int .i64 a,.int .i64 b,.int .i64 n,.slice lo ls.length lc,.slice bo nb bc,.slice eo ne ec]] w fun e w'=>Needs (okF 1 op a b n ls nb ne) 30 e/\Below w.heap.size w w':=by
 have hlen:=hl.1
 have HT0:=Two.start w 50 op a b n (.slice lo ls.length lc) (.slice bo nb bc) (.slice eo ne ec)
 rw [show okF 1 op a b n ls nb ne=(bare a b n ls.length nb ne) from rfl]
 have HL:=hideM hl
 generalize hnl:ls.length=nl at *
 generalize hq:bare a b n nl nb ne=q at *
 have HQ:=hideM hq
 clear hq
 have HNL:=hideM hnl
 have HT:=hideM HT0
 have HF:=hideM hf
 clear hl HT0 hnl hf
 go_enter Tryz.func33,Tryz.ntmps33
 go_wp2_with fail
 refine (C.form op _ (C.keep HT.out.bel hI)).mono ?_
 rintro e u ⟨rfl,hb⟩
 rw [HF.out]
 have hT:=HT.out.on hb
 have HT1:=hideM hT
 obtain ⟨c0,c1,c2,c3,c4,c5,c6,e0,e1,e2,e3,e4,e5,e6,fz,bel,sz⟩:=hT
 clear HT hb
 have f1:=fz 1
 have f2:=fz 2
 have f3:=fz 3
 have f4:=fz 4
 have f5:=fz 5
 have f6:=fz 6
 have HB:=hideM bel
 clear fz bel
 go_wp2_with fail
 refine (pneedBare op a b n lo bo eo nl nb ne lc bc ec _).mono ?_
 rintro e u9 ⟨hN,hb9⟩
 have HB9:Hid (Below w.heap.size w u9):=below_go (HB.out) hb9
 clear hb9
 rw [HQ.out] at hN
 rcases hN with ⟨h,rfl⟩|⟨h,rfl⟩
 ·go_wp2
  go_end0
  exact ⟨.inl ⟨h,rfl⟩,HB9.out⟩
 ·go_wp2
  exact ⟨rfl,.inr ⟨h,rfl⟩,HB9.out⟩
set_option maxHeartbeats 2000000 in
theorem pneedForm2 {I:World->Prop} (C:FormC I) (op a b n:Int) (ls:List Int) (lo bo eo:Option Addr) (nb ne lc bc ec:Nat) (w:World) (hf:form op=2) (hI:I w) (hl:Ints w (.slice lo ls.length lc) ls) :
  Calls Tryz.prog 33 #[.agg #[.int .i64 op,.int .i64 a,.int .i64 b,.int .i64 n,.slice lo ls.length lc,.slice bo nb bc,.slice eo ne ec]] w fun e w'=>Needs (okF 2 op a b n ls nb ne) 30 e/\Below w.heap.size w w':=by
 have hlen:=hl.1
 have HT0:=Two.start w 50 op a b n (.slice lo ls.length lc) (.slice bo nb bc) (.slice eo ne ec)
 rw [show okF 2 op a b n ls nb ne=(res a && bare 0 b n ls.length 0 ne) from rfl]
 have HL:=hideM hl
 generalize hnl:ls.length=nl at *
 generalize hq:bare 0 b n nl 0 ne=q at *
 have HQ:=hideM hq
 clear hq
 generalize hr:res a=r at *
 have HR:=hideM hr
 clear hr
 have HNL:=hideM hnl
 have HT:=hideM HT0
 have HF:=hideM hf
 clear hl HT0 hnl hf
 go_enter Tryz.func33,Tryz.ntmps33
 go_wp2_with fail
 refine (C.form op _ (C.keep HT.out.bel hI)).mono ?_
 rintro e u ⟨rfl,hb⟩
 rw [HF.out]
 have hT:=HT.out.on hb
 have HT1:=hideM hT
 obtain ⟨c0,c1,c2,c3,c4,c5,c6,e0,e1,e2,e3,e4,e5,e6,fz,bel,sz⟩:=hT
 clear HT hb
 have f1:=fz 1
 have f2:=fz 2
 have f3:=fz 3
 have f4:=fz 4
 have f5:=fz 5
 have f6:=fz 6
 have HB:=hideM bel
 clear fz bel
 go_wp2_with fail
 refine (pneedResult a _).mono ?_
 rintro e u2 ⟨hN,hb2⟩
 have hB2:=hideM (below_go HB.out hb2)
 rw [HR.out] at hN
 have hT:=HT1.out.on hb2
 clear c0 c1 c2 c3 c4 c5 c6 e0 e1 e2 e3 e4 e5 e6 f1 f2 f3 f4 f5 f6 hb2 HT1 sz
 obtain ⟨c0,c1,c2,c3,c4,c5,c6,e0,e1,e2,e3,e4,e5,e6,fz,bel,sz⟩:=hT
 have f1:=fz 1
 have f2:=fz 2
 have f3:=fz 3
 have f4:=fz 4
 have f5:=fz 5
 have f6:=fz 6
 clear fz bel
 rcases hN with ⟨rfl,rfl⟩|⟨rfl,rfl⟩
 rotate_left
 ·go_wp2
  exact ⟨rfl,.inr ⟨rfl,rfl⟩,hB2.out⟩
 go_wp2_with fail
 refine (pneedBare op 0 b n lo none eo nl 0 ne lc 0 ec _).mono ?_
 rintro e u9 ⟨hN,hb9⟩
 have HB9:Hid (Below w.heap.size w u9):=below_go (below_set (below_set (hB2.out) 1 _) 5 _) hb9
 clear hb9
 rw [HQ.out] at hN
 rcases hN with ⟨h,rfl⟩|⟨h,rfl⟩
 ·go_wp2
  go_end0
  exact ⟨.inl ⟨h,rfl⟩,HB9.out⟩
 ·go_wp2
  exact ⟨rfl,.inr ⟨h,rfl⟩,HB9.out⟩
set_option maxHeartbeats 2000000 in
theorem pneedForm3 {I:World->Prop} (C:FormC I) (op a b n:Int) (ls:List Int) (lo bo eo:Option Addr) (nb ne lc bc ec:Nat) (w:World) (hf:form op=3) (hI:I w) (hl:Ints w (.slice lo ls.length lc) ls) :
  Calls Tryz.prog 33 #[.agg #[.int .i64 op,.int .i64 a,.int .i64 b,.int .i64 n,.slice lo ls.length lc,.slice bo nb bc,.slice eo ne ec]] w fun e w'=>Needs (okF 3 op a b n ls nb ne) 30 e/\Below w.heap.size w w':=by
 have hlen:=hl.1
 have HT0:=Two.start w 50 op a b n (.slice lo ls.length lc) (.slice bo nb bc) (.slice eo ne ec)
 rw [show okF 3 op a b n ls nb ne=(res a && bare 0 b n ls.length 0 0) from rfl]
 have HL:=hideM hl
 generalize hnl:ls.length=nl at *
 generalize hq:bare 0 b n nl 0 0=q at *
 have HQ:=hideM hq
 clear hq
 generalize hr:res a=r at *
 have HR:=hideM hr
 clear hr
 have HNL:=hideM hnl
 have HT:=hideM HT0
 have HF:=hideM hf
 clear hl HT0 hnl hf
 go_enter Tryz.func33,Tryz.ntmps33
 go_wp2_with fail
 refine (C.form op _ (C.keep HT.out.bel hI)).mono ?_
 rintro e u ⟨rfl,hb⟩
 rw [HF.out]
 have hT:=HT.out.on hb
 have HT1:=hideM hT
 obtain ⟨c0,c1,c2,c3,c4,c5,c6,e0,e1,e2,e3,e4,e5,e6,fz,bel,sz⟩:=hT
 clear HT hb
 have f1:=fz 1
 have f2:=fz 2
 have f3:=fz 3
 have f4:=fz 4
 have f5:=fz 5
 have f6:=fz 6
 have HB:=hideM bel
 clear fz bel
 go_wp2_with fail
 refine (pneedResult a _).mono ?_
 rintro e u2 ⟨hN,hb2⟩
 have hB2:=hideM (below_go HB.out hb2)
 rw [HR.out] at hN
 have hT:=HT1.out.on hb2
 clear c0 c1 c2 c3 c4 c5 c6 e0 e1 e2 e3 e4 e5 e6 f1 f2 f3 f4 f5 f6 hb2 HT1 sz
 obtain ⟨c0,c1,c2,c3,c4,c5,c6,e0,e1,e2,e3,e4,e5,e6,fz,bel,sz⟩:=hT
 have f1:=fz 1
 have f2:=fz 2
 have f3:=fz 3
 have f4:=fz 4
 have f5:=fz 5
 have f6:=fz 6
 clear fz bel
 rcases hN with ⟨rfl,rfl⟩|⟨rfl,rfl⟩
 rotate_left
 ·go_wp2
  exact ⟨rfl,.inr ⟨rfl,rfl⟩,hB2.out⟩
 go_wp2_with fail
 refine (pneedBare op 0 b n lo none none nl 0 0 lc 0 0 _).mono ?_
 rintro e u9 ⟨hN,hb9⟩
 have HB9:Hid (Below w.heap.size w u9):=below_go (below_set (below_set (below_set (hB2.out) 1 _) 5 _) 6 _) hb9
 clear hb9
 rw [HQ.out] at hN
 rcases hN with ⟨h,rfl⟩|⟨h,rfl⟩
 ·go_wp2
  go_end0
  exact ⟨.inl ⟨h,rfl⟩,HB9.out⟩
 ·go_wp2
  exact ⟨rfl,.inr ⟨h,rfl⟩,HB9.out⟩
set_option maxHeartbeats 2000000 in
theorem pneedForm4 {I:World->Prop} (C:FormC I) (op a b n:Int) (ls:List Int) (lo bo eo:Option Addr) (nb ne lc bc ec:Nat) (w:World) (hf:form op=4) (hI:I w) (hl:Ints w (.slice lo ls.length lc) ls) :
  Calls Tryz.prog 33 #[.agg #[.int .i64 op,.int .i64 a,.int .i64 b,.int .i64 n,.slice lo ls.length lc,.slice bo nb bc,.slice eo ne ec]] w fun e w'=>Needs (okF 4 op a b n ls nb ne) 30 e/\Below w.heap.size w w':=by
 have hlen:=hl.1
 have HT0:=Two.start w 50 op a b n (.slice lo ls.length lc) (.slice bo nb bc) (.slice eo ne ec)
 rw [show okF 4 op a b n ls nb ne=(idx a && bare 0 b n ls.length nb ne) from rfl]
 have HL:=hideM hl
 generalize hnl:ls.length=nl at *
 generalize hq:bare 0 b n nl nb ne=q at *
 have HQ:=hideM hq
 clear hq
 generalize hr:idx a=r at *
 have HR:=hideM hr
 clear hr
 have HNL:=hideM hnl
 have HT:=hideM HT0
 have HF:=hideM hf
 clear hl HT0 hnl hf
 go_enter Tryz.func33,Tryz.ntmps33
 go_wp2_with fail
 refine (C.form op _ (C.keep HT.out.bel hI)).mono ?_
 rintro e u ⟨rfl,hb⟩
 rw [HF.out]
 have hT:=HT.out.on hb
 have HT1:=hideM hT
 obtain ⟨c0,c1,c2,c3,c4,c5,c6,e0,e1,e2,e3,e4,e5,e6,fz,bel,sz⟩:=hT
 clear HT hb
 have f1:=fz 1
 have f2:=fz 2
 have f3:=fz 3
 have f4:=fz 4
 have f5:=fz 5
 have f6:=fz 6
 have HB:=hideM bel
 clear fz bel
 go_wp2_with fail
 refine (pneedIndices _ [a] _ (ints_new _ _ _ _ _ (by simp) (by show 1<=_;omega))).mono ?_
 rintro e u2 ⟨hN,hu2⟩
 have hb2:Below u.heap.size u u2:=by rw [hu2];exact (Below.refl _ u).alloc (Nat.le_refl _) _
 clear hu2
 have hB2:=hideM (below_go HB.out hb2)
 have hall : [a].all idx=r:=by rw [<- HR.out];simp
 rw [hall] at hN
 clear hall
 have hT:=HT1.out.on hb2
 clear c0 c1 c2 c3 c4 c5 c6 e0 e1 e2 e3 e4 e5 e6 f1 f2 f3 f4 f5 f6 hb2 HT1 sz
 obtain ⟨c0,c1,c2,c3,c4,c5,c6,e0,e1,e2,e3,e4,e5,e6,fz,bel,sz⟩:=hT
 have f1:=fz 1
 have f2:=fz 2
 have f3:=fz 3
 have f4:=fz 4
 have f5:=fz 5
 have f6:=fz 6
 clear fz bel
 rcases hN with ⟨rfl,rfl⟩|⟨rfl,rfl⟩
 rotate_left
 ·go_wp2
  exact ⟨rfl,.inr ⟨rfl,rfl⟩,hB2.out⟩
 go_wp2_with fail
 refine (pneedBare op 0 b n lo bo eo nl nb ne lc bc ec _).mono ?_
 rintro e u9 ⟨hN,hb9⟩
 have HB9:Hid (Below w.heap.size w u9):=below_go (below_set (hB2.out) 1 _) hb9
 clear hb9
 rw [HQ.out] at hN
 rcases hN with ⟨h,rfl⟩|⟨h,rfl⟩
 ·go_wp2
  go_end0
  exact ⟨.inl ⟨h,rfl⟩,HB9.out⟩
 ·go_wp2
  exact ⟨rfl,.inr ⟨h,rfl⟩,HB9.out⟩
set_option maxHeartbeats 2000000 in
theorem pneedForm6 {I:World->Prop} (C:FormC I) (op a b n:Int) (ls:List Int) (lo bo eo:Option Addr) (nb ne lc bc ec:Nat) (w:World) (hf:form op=6) (hI:I w) (hl:Ints w (.slice lo ls.length lc) ls) :
  Calls Tryz.prog 33 #[.agg #[.int .i64 op,.int .i64 a,.int .i64 b,.int .i64 n,.slice lo ls.length lc,.slice bo nb bc,.slice eo ne ec]] w fun e w'=>Needs (okF 6 op a b n ls nb ne) 30 e/\Below w.heap.size w w':=by
 have hlen:=hl.1
 have HT0:=Two.start w 50 op a b n (.slice lo ls.length lc) (.slice bo nb bc) (.slice eo ne ec)
 rw [show okF 6 op a b n ls nb ne=(idx a && bare 0 b n ls.length nb ne) from rfl]
 have HL:=hideM hl
 generalize hnl:ls.length=nl at *
 generalize hq:bare 0 b n nl nb ne=q at *
 have HQ:=hideM hq
 clear hq
 generalize hr:idx a=r at *
 have HR:=hideM hr
 clear hr
 have HNL:=hideM hnl
 have HT:=hideM HT0
 have HF:=hideM hf
 clear hl HT0 hnl hf
 go_enter Tryz.func33,Tryz.ntmps33
 go_wp2_with fail
 refine (C.form op _ (C.keep HT.out.bel hI)).mono ?_
 rintro e u ⟨rfl,hb⟩
 rw [HF.out]
 have hT:=HT.out.on hb
 have HT1:=hideM hT
 obtain ⟨c0,c1,c2,c3,c4,c5,c6,e0,e1,e2,e3,e4,e5,e6,fz,bel,sz⟩:=hT
 clear HT hb
 have f1:=fz 1
 have f2:=fz 2
 have f3:=fz 3
 have f4:=fz 4
 have f5:=fz 5
 have f6:=fz 6
 have HB:=hideM bel
 clear fz bel
 go_wp2_with fail
 refine (pneedIndices _ [a] _ (ints_new _ _ _ _ _ (by simp) (by show 1<=_;omega))).mono ?_
 rintro e u2 ⟨hN,hu2⟩
 have hb2:Below u.heap.size u u2:=by rw [hu2];exact (Below.refl _ u).alloc (Nat.le_refl _) _
 clear hu2
 have hB2:=hideM (below_go HB.out hb2)
 have hall : [a].all idx=r:=by rw [<- HR.out];simp
 rw [hall] at hN
 clear hall
 have hT:=HT1.out.on hb2
 clear c0 c1 c2 c3 c4 c5 c6 e0 e1 e2 e3 e4 e5 e6 f1 f2 f3 f4 f5 f6 hb2 HT1 sz
 obtain ⟨c0,c1,c2,c3,c4,c5,c6,e0,e1,e2,e3,e4,e5,e6,fz,bel,sz⟩:=hT
 have f1:=fz 1
 have f2:=fz 2
 have f3:=fz 3
 have f4:=fz 4
 have f5:=fz 5
 have f6:=fz 6
 clear fz bel
 rcases hN with ⟨rfl,rfl⟩|⟨rfl,rfl⟩
 rotate_left
 ·go_wp2
  exact ⟨rfl,.inr ⟨rfl,rfl⟩,hB2.out⟩
 go_wp2_with fail
 refine (pneedBare op 0 b n lo bo eo nl nb ne lc bc ec _).mono ?_
 rintro e u9 ⟨hN,hb9⟩
 have HB9:Hid (Below w.heap.size w u9):=below_go (below_set (hB2.out) 1 _) hb9
 clear hb9
 rw [HQ.out] at hN
 rcases hN with ⟨h,rfl⟩|⟨h,rfl⟩
 ·go_wp2
  go_end0
  exact ⟨.inl ⟨h,rfl⟩,HB9.out⟩
 ·go_wp2
  exact ⟨rfl,.inr ⟨h,rfl⟩,HB9.out⟩
set_option maxHeartbeats 2000000 in
theorem pneedForm7 {I:World->Prop} (C:FormC I) (op a b n:Int) (ls:List Int) (lo bo eo:Option Addr) (nb ne lc bc ec:Nat) (w:World) (hf:form op=7) (hI:I w) (hl:Ints w (.slice lo ls.length lc) ls) :
  Calls Tryz.prog 33 #[.agg #[.int .i64 op,.int .i64 a,.int .i64 b,.int .i64 n,.slice lo ls.length lc,.slice bo nb bc,.slice eo ne ec]] w fun e w'=>Needs (okF 7 op a b n ls nb ne) 30 e/\Below w.heap.size w w':=by
 have hlen:=hl.1
 have HT0:=Two.start w 50 op a b n (.slice lo ls.length lc) (.slice bo nb bc) (.slice eo ne ec)
 rw [show okF 7 op a b n ls nb ne=(idx a && bare 0 b n ls.length nb ne) from rfl]
 have HL:=hideM hl
 generalize hnl:ls.length=nl at *
 generalize hq:bare 0 b n nl nb ne=q at *
 have HQ:=hideM hq
 clear hq
 generalize hr:idx a=r at *
 have HR:=hideM hr
 clear hr
 have HNL:=hideM hnl
 have HT:=hideM HT0
 have HF:=hideM hf
 clear hl HT0 hnl hf
 go_enter Tryz.func33,Tryz.ntmps33
 go_wp2_with fail
 refine (C.form op _ (C.keep HT.out.bel hI)).mono ?_
 rintro e u ⟨rfl,hb⟩
 rw [HF.out]
 have hT:=HT.out.on hb
 have HT1:=hideM hT
 obtain ⟨c0,c1,c2,c3,c4,c5,c6,e0,e1,e2,e3,e4,e5,e6,fz,bel,sz⟩:=hT
 clear HT hb
 have f1:=fz 1
 have f2:=fz 2
 have f3:=fz 3
 have f4:=fz 4
 have f5:=fz 5
 have f6:=fz 6
 have HB:=hideM bel
 clear fz bel
 go_wp2_with fail
 refine (pneedIndices _ [a] _ (ints_new _ _ _ _ _ (by simp) (by show 1<=_;omega))).mono ?_
 rintro e u2 ⟨hN,hu2⟩
 have hb2:Below u.heap.size u u2:=by rw [hu2];exact (Below.refl _ u).alloc (Nat.le_refl _) _
 clear hu2
 have hB2:=hideM (below_go HB.out hb2)
 have hall : [a].all idx=r:=by rw [<- HR.out];simp
 rw [hall] at hN
 clear hall
 have hT:=HT1.out.on hb2
 clear c0 c1 c2 c3 c4 c5 c6 e0 e1 e2 e3 e4 e5 e6 f1 f2 f3 f4 f5 f6 hb2 HT1 sz
 obtain ⟨c0,c1,c2,c3,c4,c5,c6,e0,e1,e2,e3,e4,e5,e6,fz,bel,sz⟩:=hT
 have f1:=fz 1
 have f2:=fz 2
 have f3:=fz 3
 have f4:=fz 4
 have f5:=fz 5
 have f6:=fz 6
 clear fz bel
 rcases hN with ⟨rfl,rfl⟩|⟨rfl,rfl⟩
 rotate_left
 ·go_wp2
  exact ⟨rfl,.inr ⟨rfl,rfl⟩,hB2.out⟩
 go_wp2_with fail
 refine (pneedBare op 0 b n lo bo eo nl nb ne lc bc ec _).mono ?_
 rintro e u9 ⟨hN,hb9⟩
 have HB9:Hid (Below w.heap.size w u9):=below_go (below_set (hB2.out) 1 _) hb9
 clear hb9
 rw [HQ.out] at hN
 rcases hN with ⟨h,rfl⟩|⟨h,rfl⟩
 ·go_wp2
  go_end0
  exact ⟨.inl ⟨h,rfl⟩,HB9.out⟩
 ·go_wp2
  exact ⟨rfl,.inr ⟨h,rfl⟩,HB9.out⟩
set_option maxHeartbeats 2000000 in
theorem pneedForm5 {I:World->Prop} (C:FormC I) (op a b n:Int) (ls:List Int) (lo bo eo:Option Addr) (nb ne lc bc ec:Nat) (w:World) (hf:form op=5) (hI:I w) (hl:Ints w (.slice lo ls.length lc) ls) :
  Calls Tryz.prog 33 #[.agg #[.int .i64 op,.int .i64 a,.int .i64 b,.int .i64 n,.slice lo ls.length lc,.slice bo nb bc,.slice eo ne ec]] w fun e w'=>Needs (okF 5 op a b n ls nb ne) 30 e/\Below w.heap.size w w':=by
 have hlen:=hl.1
 have HT0:=Two.start w 50 op a b n (.slice lo ls.length lc) (.slice bo nb bc) (.slice eo ne ec)
 rw [show okF 5 op a b n ls nb ne=(idx a && ls.all idx && bare 0 b n 0 nb ne) from rfl]
 have HL:=hideM hl
 generalize hnl:ls.length=nl at *
 generalize hq:bare 0 b n 0 nb ne=q at *
 have HQ:=hideM hq
 clear hq
 generalize hr:idx a=r at *
 have HR:=hideM hr
 clear hr
 generalize hr2:ls.all idx=r2 at *
 have HR2:=hideM hr2
 clear hr2
 have HNL:=hideM hnl
 have HT:=hideM HT0
 have HF:=hideM hf
 clear hl HT0 hnl hf
 go_enter Tryz.func33,Tryz.ntmps33
 go_wp2_with fail
 refine (C.form op _ (C.keep HT.out.bel hI)).mono ?_
 rintro e u ⟨rfl,hb⟩
 rw [HF.out]
 have hT:=HT.out.on hb
 have HT1:=hideM hT
 obtain ⟨c0,c1,c2,c3,c4,c5,c6,e0,e1,e2,e3,e4,e5,e6,fz,bel,sz⟩:=hT
 clear HT hb
 have f1:=fz 1
 have f2:=fz 2
 have f3:=fz 3
 have f4:=fz 4
 have f5:=fz 5
 have f6:=fz 6
 have HB:=hideM bel
 clear fz bel
 go_wp2_with fail
 refine (pneedIndices _ [a] _ (ints_new _ _ _ _ _ (by simp) (by show 1<=_;omega))).mono ?_
 rintro e u2 ⟨hN,hu2⟩
 have hb2:Below u.heap.size u u2:=by rw [hu2];exact (Below.refl _ u).alloc (Nat.le_refl _) _
 clear hu2
 have hB2:=hideM (below_go HB.out hb2)
 have hall : [a].all idx=r:=by rw [<- HR.out];simp
 rw [hall] at hN
 clear hall
 have hT:=HT1.out.on hb2
 clear c0 c1 c2 c3 c4 c5 c6 e0 e1 e2 e3 e4 e5 e6 f1 f2 f3 f4 f5 f6 hb2 HT1 sz
 obtain ⟨c0,c1,c2,c3,c4,c5,c6,e0,e1,e2,e3,e4,e5,e6,fz,bel,sz⟩:=hT
 have f1:=fz 1
 have f2:=fz 2
 have f3:=fz 3
 have f4:=fz 4
 have f5:=fz 5
 have f6:=fz 6
 clear fz bel
 rcases hN with ⟨rfl,rfl⟩|⟨rfl,rfl⟩
 rotate_left
 ·go_wp2
  exact ⟨rfl,.inr ⟨rfl,rfl⟩,hB2.out⟩
 go_wp2_with fail
 refine (pneedIndices _ ls _ (HL.out.on hB2.out)).mono ?_
 rintro e u3 ⟨hN,rfl⟩
 rw [HR2.out] at hN
 rcases hN with ⟨rfl,rfl⟩|⟨rfl,rfl⟩
 rotate_left
 ·go_wp2
  exact ⟨rfl,.inr ⟨rfl,rfl⟩,hB2.out⟩
 go_wp2_with fail
 refine (pneedBare op 0 b n none bo eo 0 nb ne 0 bc ec _).mono ?_
 rintro e u9 ⟨hN,hb9⟩
 have HB9:Hid (Below w.heap.size w u9):=below_go (below_set (below_set (hB2.out) 1 _) 4 _) hb9
 clear hb9
 rw [HQ.out] at hN
 rcases hN with ⟨h,rfl⟩|⟨h,rfl⟩
 ·go_wp2
  go_end0
  exact ⟨.inl ⟨h,rfl⟩,HB9.out⟩
 ·go_wp2
  exact ⟨rfl,.inr ⟨h,rfl⟩,HB9.out⟩
set_option maxHeartbeats 2000000 in
theorem pneedForm8 {I:World->Prop} (C:FormC I) (op a b n:Int) (ls:List Int) (lo bo eo:Option Addr) (nb ne lc bc ec:Nat) (w:World) (hf:form op=8) (hI:I w) (hl:Ints w (.slice lo ls.length lc) ls) :
  Calls Tryz.prog 33 #[.agg #[.int .i64 op,.int .i64 a,.int .i64 b,.int .i64 n,.slice lo ls.length lc,.slice bo nb bc,.slice eo ne ec]] w fun e w'=>Needs (okF 8 op a b n ls nb ne) 30 e/\Below w.heap.size w w':=by
 have hlen:=hl.1
 have HT0:=Two.start w 50 op a b n (.slice lo ls.length lc) (.slice bo nb bc) (.slice eo ne ec)
 rw [show okF 8 op a b n ls nb ne=((idx a && idx b) && bare 0 0 n ls.length nb ne) from rfl]
 have HL:=hideM hl
 generalize hnl:ls.length=nl at *
 generalize hq:bare 0 0 n nl nb ne=q at *
 have HQ:=hideM hq
 clear hq
 generalize hr:(idx a && idx b)=r at *
 have HR:=hideM hr
 clear hr
 have HNL:=hideM hnl
 have HT:=hideM HT0
 have HF:=hideM hf
 clear hl HT0 hnl hf
 go_enter Tryz.func33,Tryz.ntmps33
 go_wp2_with fail
 refine (C.form op _ (C.keep HT.out.bel hI)).mono ?_
 rintro e u ⟨rfl,hb⟩
 rw [HF.out]
 have hT:=HT.out.on hb
 have HT1:=hideM hT
 obtain ⟨c0,c1,c2,c3,c4,c5,c6,e0,e1,e2,e3,e4,e5,e6,fz,bel,sz⟩:=hT
 clear HT hb
 have f1:=fz 1
 have f2:=fz 2
 have f3:=fz 3
 have f4:=fz 4
 have f5:=fz 5
 have f6:=fz 6
 have HB:=hideM bel
 clear fz bel
 go_wp2_with fail
 refine (pneedIndices _ [a,b] _ (ints_new _ _ _ _ _ (by simp) (by show 2<=_;omega))).mono ?_
 rintro e u2 ⟨hN,hu2⟩
 have hb2:Below u.heap.size u u2:=by rw [hu2];exact (Below.refl _ u).alloc (Nat.le_refl _) _
 clear hu2
 have hB2:=hideM (below_go HB.out hb2)
 have hall : [a,b].all idx=r:=by rw [<- HR.out];simp
 rw [hall] at hN
 clear hall
 have hT:=HT1.out.on hb2
 clear c0 c1 c2 c3 c4 c5 c6 e0 e1 e2 e3 e4 e5 e6 f1 f2 f3 f4 f5 f6 hb2 HT1 sz
 obtain ⟨c0,c1,c2,c3,c4,c5,c6,e0,e1,e2,e3,e4,e5,e6,fz,bel,sz⟩:=hT
 have f1:=fz 1
 have f2:=fz 2
 have f3:=fz 3
 have f4:=fz 4
 have f5:=fz 5
 have f6:=fz 6
 clear fz bel
 rcases hN with ⟨rfl,rfl⟩|⟨rfl,rfl⟩
 rotate_left
 ·go_wp2
  exact ⟨rfl,.inr ⟨rfl,rfl⟩,hB2.out⟩
 go_wp2_with fail
 refine (pneedBare op 0 0 n lo bo eo nl nb ne lc bc ec _).mono ?_
 rintro e u9 ⟨hN,hb9⟩
 have HB9:Hid (Below w.heap.size w u9):=below_go (below_set (below_set (hB2.out) 1 _) 2 _) hb9
 clear hb9
 rw [HQ.out] at hN
 rcases hN with ⟨h,rfl⟩|⟨h,rfl⟩
 ·go_wp2
  go_end0
  exact ⟨.inl ⟨h,rfl⟩,HB9.out⟩
 ·go_wp2
  exact ⟨rfl,.inr ⟨h,rfl⟩,HB9.out⟩
set_option maxHeartbeats 2000000 in
theorem pneedForm9a {I:World->Prop} (C:FormC I) (op a b n:Int) (ls:List Int) (lo bo eo:Option Addr) (nb ne lc bc ec:Nat) (w:World) (hf:form op=9) (d1:(op == 66)=true) (hI:I w) (hl:Ints w (.slice lo ls.length lc) ls) :
  Calls Tryz.prog 33 #[.agg #[.int .i64 op,.int .i64 a,.int .i64 b,.int .i64 n,.slice lo ls.length lc,.slice bo nb bc,.slice eo ne ec]] w fun e w'=>Needs (okF 9 op a b n ls nb ne) 30 e/\Below w.heap.size w w':=by
 have hlen:=hl.1
 have HT0:=Two.start w 50 op a b n (.slice lo ls.length lc) (.slice bo nb bc) (.slice eo ne ec)
 rw [show okF 9 op a b n ls nb ne=((op == 66 || (decide (-2147483648<=n) && decide (n<=2147483647))) && bare a b 0 ls.length nb ne) from rfl]
 rw [d1,Bool.true_or,Bool.true_and]
 have HL:=hideM hl
 generalize hnl:ls.length=nl at *
 generalize hq:bare a b 0 nl nb ne=q at *
 have HQ:=hideM hq
 clear hq
 have HNL:=hideM hnl
 have HT:=hideM HT0
 have HF:=hideM hf
 clear hl HT0 hnl hf
 go_enter Tryz.func33,Tryz.ntmps33
 go_wp2_with fail
 refine (C.form op _ (C.keep HT.out.bel hI)).mono ?_
 rintro e u ⟨rfl,hb⟩
 rw [HF.out]
 have hT:=HT.out.on hb
 have HT1:=hideM hT
 obtain ⟨c0,c1,c2,c3,c4,c5,c6,e0,e1,e2,e3,e4,e5,e6,fz,bel,sz⟩:=hT
 clear HT hb
 have f3:=fz 3
 have HB:=hideM bel
 clear fz bel
 go_wp2_with fail
 refine (pNeed true _ _).mono ?_
 rintro e u2 ⟨hN,rfl⟩
 obtain rfl:=hN.yes
 go_wp2_with fail
 refine (pneedBare op a b 0 lo bo eo nl nb ne lc bc ec _).mono ?_
 rintro e u9 ⟨hN,hb9⟩
 have HB9:Hid (Below w.heap.size w u9):=below_go (below_set HB.out 3 _) hb9
 clear hb9
 rw [HQ.out] at hN
 rcases hN with ⟨h,rfl⟩|⟨h,rfl⟩
 ·go_wp2
  go_end0
  exact ⟨.inl ⟨h,rfl⟩,HB9.out⟩
 ·go_wp2
  exact ⟨rfl,.inr ⟨h,rfl⟩,HB9.out⟩
set_option maxHeartbeats 2000000 in
theorem pneedForm9b {I:World->Prop} (C:FormC I) (op a b n:Int) (ls:List Int) (lo bo eo:Option Addr) (nb ne lc bc ec:Nat) (w:World) (hf:form op=9) (d1:(op == 66)=false) (d2:decide (-2147483648<=n)=true) (d3:decide (n<=2147483647)=true) (hI:I w) (hl:Ints w (.slice lo ls.length lc) ls) :
  Calls Tryz.prog 33 #[.agg #[.int .i64 op,.int .i64 a,.int .i64 b,.int .i64 n,.slice lo ls.length lc,.slice bo nb bc,.slice eo ne ec]] w fun e w'=>Needs (okF 9 op a b n ls nb ne) 30 e/\Below w.heap.size w w':=by
 have hlen:=hl.1
 have HT0:=Two.start w 50 op a b n (.slice lo ls.length lc) (.slice bo nb bc) (.slice eo ne ec)
 rw [show okF 9 op a b n ls nb ne=((op == 66 || (decide (-2147483648<=n) && decide (n<=2147483647))) && bare a b 0 ls.length nb ne) from rfl]
 rw [d1,d2,d3,Bool.and_self,Bool.or_true,Bool.true_and]
 have HL:=hideM hl
 generalize hnl:ls.length=nl at *
 generalize hq:bare a b 0 nl nb ne=q at *
 have HQ:=hideM hq
 clear hq
 have HNL:=hideM hnl
 have HT:=hideM HT0
 have HF:=hideM hf
 clear hl HT0 hnl hf
 go_enter Tryz.func33,Tryz.ntmps33
 go_wp2_with fail
 refine (C.form op _ (C.keep HT.out.bel hI)).mono ?_
 rintro e u ⟨rfl,hb⟩
 rw [HF.out]
 have hT:=HT.out.on hb
 have HT1:=hideM hT
 obtain ⟨c0,c1,c2,c3,c4,c5,c6,e0,e1,e2,e3,e4,e5,e6,fz,bel,sz⟩:=hT
 clear HT hb
 have f3:=fz 3
 have HB:=hideM bel
 clear fz bel
 go_wp2_with fail
 refine (pNeed true _ _).mono ?_
 rintro e u2 ⟨hN,rfl⟩
 obtain rfl:=hN.yes
 go_wp2_with fail
 refine (pneedBare op a b 0 lo bo eo nl nb ne lc bc ec _).mono ?_
 rintro e u9 ⟨hN,hb9⟩
 have HB9:Hid (Below w.heap.size w u9):=below_go (below_set HB.out 3 _) hb9
 clear hb9
 rw [HQ.out] at hN
 rcases hN with ⟨h,rfl⟩|⟨h,rfl⟩
 ·go_wp2
  go_end0
  exact ⟨.inl ⟨h,rfl⟩,HB9.out⟩
 ·go_wp2
  exact ⟨rfl,.inr ⟨h,rfl⟩,HB9.out⟩
set_option maxHeartbeats 2000000 in
theorem pneedForm9c {I:World->Prop} (C:FormC I) (op a b n:Int) (ls:List Int) (lo bo eo:Option Addr) (nb ne lc bc ec:Nat) (w:World) (hf:form op=9) (d1:(op == 66)=false) (d2:decide (-2147483648<=n)=true) (d3:decide (n<=2147483647)=false) (hI:I w) (hl:Ints w (.slice lo ls.length lc) ls) :
  Calls Tryz.prog 33 #[.agg #[.int .i64 op,.int .i64 a,.int .i64 b,.int .i64 n,.slice lo ls.length lc,.slice bo nb bc,.slice eo ne ec]] w fun e w'=>Needs (okF 9 op a b n ls nb ne) 30 e/\Below w.heap.size w w':=by
 have hlen:=hl.1
 have HT0:=Two.start w 50 op a b n (.slice lo ls.length lc) (.slice bo nb bc) (.slice eo ne ec)
 rw [show okF 9 op a b n ls nb ne=((op == 66 || (decide (-2147483648<=n) && decide (n<=2147483647))) && bare a b 0 ls.length nb ne) from rfl]
 rw [d1,d2,d3,Bool.and_false,Bool.or_false,Bool.false_and]
 have HL:=hideM hl
 generalize hnl:ls.length=nl at *
 generalize hq:bare a b 0 nl nb ne=q at *
 have HQ:=hideM hq
 clear hq
 have HNL:=hideM hnl
 have HT:=hideM HT0
 have HF:=hideM hf
 clear hl HT0 hnl hf
 go_enter Tryz.func33,Tryz.ntmps33
 go_wp2_with fail
 refine (C.form op _ (C.keep HT.out.bel hI)).mono ?_
 rintro e u ⟨rfl,hb⟩
 rw [HF.out]
 have hT:=HT.out.on hb
 have HT1:=hideM hT
 obtain ⟨c0,c1,c2,c3,c4,c5,c6,e0,e1,e2,e3,e4,e5,e6,fz,bel,sz⟩:=hT
 clear HT hb
 have f3:=fz 3
 have HB:=hideM bel
 clear fz bel
 go_wp2_with fail
 refine (pNeed false _ _).mono ?_
 rintro e u2 ⟨hN,rfl⟩
 obtain rfl:=hN.no
 go_wp2
 exact ⟨rfl,.inr ⟨rfl,rfl⟩,HB.out⟩
set_option maxHeartbeats 2000000 in
theorem pneedForm9d {I:World->Prop} (C:FormC I) (op a b n:Int) (ls:List Int) (lo bo eo:Option Addr) (nb ne lc bc ec:Nat) (w:World) (hf:form op=9) (d1:(op == 66)=false) (d2:decide (-2147483648<=n)=false) (hI:I w) (hl:Ints w (.slice lo ls.length lc) ls) :
  Calls Tryz.prog 33 #[.agg #[.int .i64 op,.int .i64 a,.int .i64 b,.int .i64 n,.slice lo ls.length lc,.slice bo nb bc,.slice eo ne ec]] w fun e w'=>Needs (okF 9 op a b n ls nb ne) 30 e/\Below w.heap.size w w':=by
 have hlen:=hl.1
 have HT0:=Two.start w 50 op a b n (.slice lo ls.length lc) (.slice bo nb bc) (.slice eo ne ec)
 rw [show okF 9 op a b n ls nb ne=((op == 66 || (decide (-2147483648<=n) && decide (n<=2147483647))) && bare a b 0 ls.length nb ne) from rfl]
 rw [d1,d2,Bool.false_and,Bool.or_false,Bool.false_and]
 have HL:=hideM hl
 generalize hnl:ls.length=nl at *
 generalize hq:bare a b 0 nl nb ne=q at *
 have HQ:=hideM hq
 clear hq
 have HNL:=hideM hnl
 have HT:=hideM HT0
 have HF:=hideM hf
 clear hl HT0 hnl hf
 go_enter Tryz.func33,Tryz.ntmps33
 go_wp2_with fail
 refine (C.form op _ (C.keep HT.out.bel hI)).mono ?_
 rintro e u ⟨rfl,hb⟩
 rw [HF.out]
 have hT:=HT.out.on hb
 have HT1:=hideM hT
 obtain ⟨c0,c1,c2,c3,c4,c5,c6,e0,e1,e2,e3,e4,e5,e6,fz,bel,sz⟩:=hT
 clear HT hb
 have f3:=fz 3
 have HB:=hideM bel
 clear fz bel
 go_wp2_with fail
 refine (pNeed false _ _).mono ?_
 rintro e u2 ⟨hN,rfl⟩
 obtain rfl:=hN.no
 go_wp2
 exact ⟨rfl,.inr ⟨rfl,rfl⟩,HB.out⟩
set_option maxHeartbeats 2000000 in
theorem pneedForm0 {I:World->Prop} (C:FormC I) (op a b n:Int) (ls:List Int) (lo bo eo:Option Addr) (nb ne lc bc ec:Nat) (w:World) (hf:form op=0) (hI:I w) (hl:Ints w (.slice lo ls.length lc) ls) :
  Calls Tryz.prog 33 #[.agg #[.int .i64 op,.int .i64 a,.int .i64 b,.int .i64 n,.slice lo ls.length lc,.slice bo nb bc,.slice eo ne ec]] w fun e w'=>Needs (okF 0 op a b n ls nb ne) 30 e/\Below w.heap.size w w':=by
 have hlen:=hl.1
 have HT0:=Two.start w 50 op a b n (.slice lo ls.length lc) (.slice bo nb bc) (.slice eo ne ec)
 rw [show okF 0 op a b n ls nb ne=(false) from rfl]
 have HL:=hideM hl
 generalize hnl:ls.length=nl at *
 have HNL:=hideM hnl
 have HT:=hideM HT0
 have HF:=hideM hf
 clear hl HT0 hnl hf
 go_enter Tryz.func33,Tryz.ntmps33
 go_wp2_with fail
 refine (C.form op _ (C.keep HT.out.bel hI)).mono ?_
 rintro e u ⟨rfl,hb⟩
 rw [HF.out]
 have hT:=HT.out.on hb
 have HT1:=hideM hT
 obtain ⟨c0,c1,c2,c3,c4,c5,c6,e0,e1,e2,e3,e4,e5,e6,fz,bel,sz⟩:=hT
 clear HT hb
 have HB:=hideM bel
 clear fz bel
 go_wp2_with fail
 refine (pNeed false _ _).mono ?_
 rintro e u2 ⟨hN,rfl⟩
 obtain rfl:=hN.no
 go_wp2
 exact ⟨rfl,.inr ⟨rfl,rfl⟩,HB.out⟩
set_option maxHeartbeats 2000000 in
theorem pneedForm10 {I:World->Prop} (C:FormC I) (op a b n:Int) (ls:List Int) (lo bo eo:Option Addr) (nb ne lc bc ec:Nat) (w:World) (hf:form op=10) (hI:I w) (hl:Ints w (.slice lo ls.length lc) ls) :
  Calls Tryz.prog 33 #[.agg #[.int .i64 op,.int .i64 a,.int .i64 b,.int .i64 n,.slice lo ls.length lc,.slice bo nb bc,.slice eo ne ec]] w fun e w'=>Needs (okF 10 op a b n ls nb ne) 30 e/\Below w.heap.size w w':=by
 have hlen:=hl.1
 have HT0:=Two.start w 50 op a b n (.slice lo ls.length lc) (.slice bo nb bc) (.slice eo ne ec)
 rw [show okF 10 op a b n ls nb ne=(false) from rfl]
 have HL:=hideM hl
 generalize hnl:ls.length=nl at *
 have HNL:=hideM hnl
 have HT:=hideM HT0
 have HF:=hideM hf
 clear hl HT0 hnl hf
 go_enter Tryz.func33,Tryz.ntmps33
 go_wp2_with fail
 refine (C.form op _ (C.keep HT.out.bel hI)).mono ?_
 rintro e u ⟨rfl,hb⟩
 rw [HF.out]
 have hT:=HT.out.on hb
 have HT1:=hideM hT
 obtain ⟨c0,c1,c2,c3,c4,c5,c6,e0,e1,e2,e3,e4,e5,e6,fz,bel,sz⟩:=hT
 clear HT hb
 have HB:=hideM bel
 clear fz bel
 go_wp2_with fail
 refine (pNeed false _ _).mono ?_
 rintro e u2 ⟨hN,rfl⟩
 obtain rfl:=hN.no
 go_wp2
 exact ⟨rfl,.inr ⟨rfl,rfl⟩,HB.out⟩
def FR (f:Int):Prop:=f=0\/f=1\/f=2\/f=3\/f=4\/f=5\/f=6\/f=7\/f=8\/f=9\/f=10
theorem fr_ite {p:Prop} [Decidable p] {a b:Int} (ha:FR a) (hb:FR b):FR (if p then a else b):=by split;exact ha;exact hb
theorem form_range (op:Int):FR (form op):=by
 unfold form
 repeat refine fr_ite (by unfold FR;decide) ?_
 unfold FR;decide
theorem pneedForm {I:World->Prop} (C:FormC I) (op a b n:Int) (ls:List Int) (lo bo eo:Option Addr) (nb ne lc bc ec:Nat) (w:World) (hI:I w) (hl:Ints w (.slice lo ls.length lc) ls) :
  Calls Tryz.prog 33 #[.agg #[.int .i64 op,.int .i64 a,.int .i64 b,.int .i64 n,.slice lo ls.length lc,.slice bo nb bc,.slice eo ne ec]] w fun e w'=>Needs (okF (form op) op a b n ls nb ne) 30 e/\Below w.heap.size w w':=by
 rcases form_range op with h|h|h|h|h|h|h|h|h|h|h
 ·rw [h];exact pneedForm0 C op a b n ls lo bo eo nb ne lc bc ec w h hI hl
 ·rw [h];exact pneedForm1 C op a b n ls lo bo eo nb ne lc bc ec w h hI hl
 ·rw [h];exact pneedForm2 C op a b n ls lo bo eo nb ne lc bc ec w h hI hl
 ·rw [h];exact pneedForm3 C op a b n ls lo bo eo nb ne lc bc ec w h hI hl
 ·rw [h];exact pneedForm4 C op a b n ls lo bo eo nb ne lc bc ec w h hI hl
 ·rw [h];exact pneedForm5 C op a b n ls lo bo eo nb ne lc bc ec w h hI hl
 ·rw [h];exact pneedForm6 C op a b n ls lo bo eo nb ne lc bc ec w h hI hl
 ·rw [h];exact pneedForm7 C op a b n ls lo bo eo nb ne lc bc ec w h hI hl
 ·rw [h];exact pneedForm8 C op a b n ls lo bo eo nb ne lc bc ec w h hI hl
 ·rw [h]
  by_cases g1:op=66
  ·exact pneedForm9a C op a b n ls lo bo eo nb ne lc bc ec w h (by simp [g1]) hI hl
  ·by_cases g2:-2147483648<=n
   ·by_cases g3:n<=2147483647
    ·exact pneedForm9b C op a b n ls lo bo eo nb ne lc bc ec w h (by simp [g1]) (by simp [g2]) (by simp [g3]) hI hl
    ·exact pneedForm9c C op a b n ls lo bo eo nb ne lc bc ec w h (by simp [g1]) (by simp [g2]) (by simp;omega) hI hl
   ·exact pneedForm9d C op a b n ls lo bo eo nb ne lc bc ec w h (by simp [g1]) (by simp;omega) hI hl
 ·rw [h];exact pneedForm10 C op a b n ls lo bo eo nb ne lc bc ec w h hI hl
end Go.Proofs.YtiailkiepndliaaGreatDoor

