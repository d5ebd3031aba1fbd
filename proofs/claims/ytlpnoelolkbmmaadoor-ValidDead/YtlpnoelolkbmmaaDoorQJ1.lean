/- QJ1: several texts in one. -/
import Derived.Test.YtlpnoelolkbmmaaDoorQJ0
import Derived.Test.YtlpnoelolkbmmaaDoorFC
namespace Go.Proofs.YtlpnoelolkbmmaaDoor
open Go.RowKit Rep
set_option linter.unusedVariables false

namespace Rep
def okF (f op a b n : Int) (ls : List Int) (nb ne : Nat) : Bool :=
  if f = 1 then bare a b n ls.length nb ne
  else if f = 2 then res a && bare 0 b n ls.length 0 ne
  else if f = 3 then res a && bare 0 b n ls.length 0 0
  else if f = 4 ∨ f = 6 ∨ f = 7 then idx a && bare 0 b n ls.length nb ne
  else if f = 5 then idx a && ls.all idx && bare 0 b n 0 nb ne
  else if f = 8 then (idx a && idx b) && bare 0 0 n ls.length nb ne
  else if f = 9 then (op == 66 || (decide (-2147483648 ≤ n) && decide (n ≤ 2147483647))) && bare a b 0 ls.length nb ne
  else false
structure Two (w : World) (op a b n : Int) (lv bv ev : Value) (u : World) : Prop where
  c0 : u.cell? ⟨w.heap.size, 0, none⟩ = some (.int .i64 op)
  c1 : u.cell? ⟨w.heap.size, 1, none⟩ = some (.int .i64 a)
  c2 : u.cell? ⟨w.heap.size, 2, none⟩ = some (.int .i64 b)
  c3 : u.cell? ⟨w.heap.size, 3, none⟩ = some (.int .i64 n)
  c4 : u.cell? ⟨w.heap.size, 4, none⟩ = some lv
  c5 : u.cell? ⟨w.heap.size, 5, none⟩ = some bv
  c6 : u.cell? ⟨w.heap.size, 6, none⟩ = some ev
  e0 : u.cell? ⟨w.heap.size + 1, 0, none⟩ = some (.int .i64 op)
  e1 : u.cell? ⟨w.heap.size + 1, 1, none⟩ = some (.int .i64 a)
  e2 : u.cell? ⟨w.heap.size + 1, 2, none⟩ = some (.int .i64 b)
  e3 : u.cell? ⟨w.heap.size + 1, 3, none⟩ = some (.int .i64 n)
  e4 : u.cell? ⟨w.heap.size + 1, 4, none⟩ = some lv
  e5 : u.cell? ⟨w.heap.size + 1, 5, none⟩ = some bv
  e6 : u.cell? ⟨w.heap.size + 1, 6, none⟩ = some ev
  fz : ∀ i, u.frozen? ⟨w.heap.size + 1, i, none⟩ = false
  bel : Below w.heap.size w u
  sz : w.heap.size + 2 ≤ u.heap.size
theorem Two.on {w : World} {op a b n : Int} {lv bv ev : Value} {u u' : World} (hb : Below u.heap.size u u') (h : Two w op a b n lv bv ev u) : Two w op a b n lv bv ev u' :=
  ⟨cell_on hb h.c0, cell_on hb h.c1, cell_on hb h.c2, cell_on hb h.c3, cell_on hb h.c4, cell_on hb h.c5, cell_on hb h.c6,
   cell_on hb h.e0, cell_on hb h.e1, cell_on hb h.e2, cell_on hb h.e3, cell_on hb h.e4, cell_on hb h.e5, cell_on hb h.e6,
   fun i => (hb.frozen (p := ⟨w.heap.size + 1, i, none⟩) (by have := h.sz; show w.heap.size + 1 < _; omega)).trans (h.fz i), h.bel.trans (hb.mono h.bel.size), Nat.le_trans h.sz hb.size⟩
theorem Two.start (w : World) (t : TypeId) (op a b n : Int) (lv bv ev : Value) :
    Two w op a b n lv bv ev ((w.alloc (.cells #[.int .i64 op, .int .i64 a, .int .i64 b, .int .i64 n, lv, bv, ev] t)).alloc (.cells #[.int .i64 op, .int .i64 a, .int .i64 b, .int .i64 n, lv, bv, ev] t)) := by
  refine ⟨?_, ?_, ?_, ?_, ?_, ?_, ?_, ?_, ?_, ?_, ?_, ?_, ?_, ?_, ?_, ((Below.refl _ w).alloc (Nat.le_refl _) _).alloc (by simp) _, by simp⟩
  all_goals first
    | (rw [World.cell?_alloc_past _ _ _ (by simp), World.cell?_alloc_at _ t _ _ rfl]; rfl)
    | (rw [World.cell?_alloc_at _ t _ _ (by simp)]; rfl)
    | (intro i; rw [World.frozen?_alloc_at _ t _ _ (by simp)])
theorem below_set {w u : World} (h : Below w.heap.size w u) (i : Nat) (v : Value) : Below w.heap.size w (u.setCell ⟨w.heap.size + 1, i, none⟩ v) := h.setCell (p := ⟨w.heap.size + 1, i, none⟩) (by show w.heap.size ≤ w.heap.size + 1; omega) v
theorem below_new {w u : World} (h : Below w.heap.size w u) (o : Obj) : Below w.heap.size w (u.alloc o) := h.alloc h.size o
theorem below_go {w u v : World} (h : Below w.heap.size w u) (k : Below u.heap.size u v) : Below w.heap.size w v := h.trans (k.mono h.size)
end Rep

set_option maxHeartbeats 2000000 in
theorem pneedForm1 {I : World → Prop} (C : FormC I) (op a b n : Int) (ls : List Int) (lo bo eo : Option Addr) (nb ne lc bc ec : Nat) (w : World) (hf : form op = 1) (hI : I w) (hl : Ints w (.slice lo ls.length lc) ls) :
    Calls Tryd.prog 33 #[.agg #[.int .i64 op, .int .i64 a, .int .i64 b, .int .i64 n, .slice lo ls.length lc, .slice bo nb bc, .slice eo ne ec]] w fun e w' => Needs (okF 1 op a b n ls nb ne) 30 e ∧ Below w.heap.size w w' := by
  have hlen := hl.1
  have HT0 := Two.start w 26 op a b n (.slice lo ls.length lc) (.slice bo nb bc) (.slice eo ne ec)
  rw [show okF 1 op a b n ls nb ne = (bare a b n ls.length nb ne) from rfl]
  have HL := hideM hl
  generalize hnl : ls.length = nl at *
  generalize hq : bare a b n nl nb ne = q at *
  have HQ := hideM hq
  clear hq
  have HNL := hideM hnl
  have HT := hideM HT0
  have HF := hideM hf
  clear hl HT0 hnl hf
  go_enter Tryd.func33, Tryd.ntmps33
  go_wp2_with fail
  refine (C.form op _ (C.keep HT.out.bel hI)).mono ?_
  rintro e u ⟨rfl, hb⟩
  rw [HF.out]
  have hT := HT.out.on hb
  have HT1 := hideM hT
  obtain ⟨c0, c1, c2, c3, c4, c5, c6, e0, e1, e2, e3, e4, e5, e6, fz, bel, sz⟩ := hT
  clear HT hb
  have f1 := fz 1
  have f2 := fz 2
  have f3 := fz 3
  have f4 := fz 4
  have f5 := fz 5
  have f6 := fz 6
  have HB := hideM bel
  clear fz bel
  go_wp2_with fail
  refine (pneedBare op a b n lo bo eo nl nb ne lc bc ec _).mono ?_
  rintro e u9 ⟨hN, hb9⟩
  have HB9 : Hid (Below w.heap.size w u9) := below_go (HB.out) hb9
  clear hb9
  rw [HQ.out] at hN
  rcases hN with ⟨h, rfl⟩ | ⟨h, rfl⟩
  · go_wp2
    go_end0
    exact ⟨.inl ⟨h, rfl⟩, HB9.out⟩
  · go_wp2
    exact ⟨rfl, .inr ⟨h, rfl⟩, HB9.out⟩

set_option maxHeartbeats 2000000 in
theorem pneedForm2 {I : World → Prop} (C : FormC I) (op a b n : Int) (ls : List Int) (lo bo eo : Option Addr) (nb ne lc bc ec : Nat) (w : World) (hf : form op = 2) (hI : I w) (hl : Ints w (.slice lo ls.length lc) ls) :
    Calls Tryd.prog 33 #[.agg #[.int .i64 op, .int .i64 a, .int .i64 b, .int .i64 n, .slice lo ls.length lc, .slice bo nb bc, .slice eo ne ec]] w fun e w' => Needs (okF 2 op a b n ls nb ne) 30 e ∧ Below w.heap.size w w' := by
  have hlen := hl.1
  have HT0 := Two.start w 26 op a b n (.slice lo ls.length lc) (.slice bo nb bc) (.slice eo ne ec)
  rw [show okF 2 op a b n ls nb ne = (res a && bare 0 b n ls.length 0 ne) from rfl]
  have HL := hideM hl
  generalize hnl : ls.length = nl at *
  generalize hq : bare 0 b n nl 0 ne = q at *
  have HQ := hideM hq
  clear hq
  generalize hr : res a = r at *
  have HR := hideM hr
  clear hr
  have HNL := hideM hnl
  have HT := hideM HT0
  have HF := hideM hf
  clear hl HT0 hnl hf
  go_enter Tryd.func33, Tryd.ntmps33
  go_wp2_with fail
  refine (C.form op _ (C.keep HT.out.bel hI)).mono ?_
  rintro e u ⟨rfl, hb⟩
  rw [HF.out]
  have hT := HT.out.on hb
  have HT1 := hideM hT
  obtain ⟨c0, c1, c2, c3, c4, c5, c6, e0, e1, e2, e3, e4, e5, e6, fz, bel, sz⟩ := hT
  clear HT hb
  have f1 := fz 1
  have f2 := fz 2
  have f3 := fz 3
  have f4 := fz 4
  have f5 := fz 5
  have f6 := fz 6
  have HB := hideM bel
  clear fz bel
  go_wp2_with fail
  refine (pneedResult a _).mono ?_
  rintro e u2 ⟨hN, hb2⟩
  have hB2 := hideM (below_go HB.out hb2)
  rw [HR.out] at hN
  have hT := HT1.out.on hb2
  clear c0 c1 c2 c3 c4 c5 c6 e0 e1 e2 e3 e4 e5 e6 f1 f2 f3 f4 f5 f6 hb2 HT1 sz
  obtain ⟨c0, c1, c2, c3, c4, c5, c6, e0, e1, e2, e3, e4, e5, e6, fz, bel, sz⟩ := hT
  have f1 := fz 1
  have f2 := fz 2
  have f3 := fz 3
  have f4 := fz 4
  have f5 := fz 5
  have f6 := fz 6
  clear fz bel
  rcases hN with ⟨rfl, rfl⟩ | ⟨rfl, rfl⟩
  rotate_left
  · go_wp2
    exact ⟨rfl, .inr ⟨rfl, rfl⟩, hB2.out⟩
  go_wp2_with fail
  refine (pneedBare op 0 b n lo none eo nl 0 ne lc 0 ec _).mono ?_
  rintro e u9 ⟨hN, hb9⟩
  have HB9 : Hid (Below w.heap.size w u9) := below_go (below_set (below_set (hB2.out) 1 _) 5 _) hb9
  clear hb9
  rw [HQ.out] at hN
  rcases hN with ⟨h, rfl⟩ | ⟨h, rfl⟩
  · go_wp2
    go_end0
    exact ⟨.inl ⟨h, rfl⟩, HB9.out⟩
  · go_wp2
    exact ⟨rfl, .inr ⟨h, rfl⟩, HB9.out⟩

set_option maxHeartbeats 2000000 in
theorem pneedForm3 {I : World → Prop} (C : FormC I) (op a b n : Int) (ls : List Int) (lo bo eo : Option Addr) (nb ne lc bc ec : Nat) (w : World) (hf : form op = 3) (hI : I w) (hl : Ints w (.slice lo ls.length lc) ls) :
    Calls Tryd.prog 33 #[.agg #[.int .i64 op, .int .i64 a, .int .i64 b, .int .i64 n, .slice lo ls.length lc, .slice bo nb bc, .slice eo ne ec]] w fun e w' => Needs (okF 3 op a b n ls nb ne) 30 e ∧ Below w.heap.size w w' := by
  have hlen := hl.1
  have HT0 := Two.start w 26 op a b n (.slice lo ls.length lc) (.slice bo nb bc) (.slice eo ne ec)
  rw [show okF 3 op a b n ls nb ne = (res a && bare 0 b n ls.length 0 0) from rfl]
  have HL := hideM hl
  generalize hnl : ls.length = nl at *
  generalize hq : bare 0 b n nl 0 0 = q at *
  have HQ := hideM hq
  clear hq
  generalize hr : res a = r at *
  have HR := hideM hr
  clear hr
  have HNL := hideM hnl
  have HT := hideM HT0
  have HF := hideM hf
  clear hl HT0 hnl hf
  go_enter Tryd.func33, Tryd.ntmps33
  go_wp2_with fail
  refine (C.form op _ (C.keep HT.out.bel hI)).mono ?_
  rintro e u ⟨rfl, hb⟩
  rw [HF.out]
  have hT := HT.out.on hb
  have HT1 := hideM hT
  obtain ⟨c0, c1, c2, c3, c4, c5, c6, e0, e1, e2, e3, e4, e5, e6, fz, bel, sz⟩ := hT
  clear HT hb
  have f1 := fz 1
  have f2 := fz 2
  have f3 := fz 3
  have f4 := fz 4
  have f5 := fz 5
  have f6 := fz 6
  have HB := hideM bel
  clear fz bel
  go_wp2_with fail
  refine (pneedResult a _).mono ?_
  rintro e u2 ⟨hN, hb2⟩
  have hB2 := hideM (below_go HB.out hb2)
  rw [HR.out] at hN
  have hT := HT1.out.on hb2
  clear c0 c1 c2 c3 c4 c5 c6 e0 e1 e2 e3 e4 e5 e6 f1 f2 f3 f4 f5 f6 hb2 HT1 sz
  obtain ⟨c0, c1, c2, c3, c4, c5, c6, e0, e1, e2, e3, e4, e5, e6, fz, bel, sz⟩ := hT
  have f1 := fz 1
  have f2 := fz 2
  have f3 := fz 3
  have f4 := fz 4
  have f5 := fz 5
  have f6 := fz 6
  clear fz bel
  rcases hN with ⟨rfl, rfl⟩ | ⟨rfl, rfl⟩
  rotate_left
  · go_wp2
    exact ⟨rfl, .inr ⟨rfl, rfl⟩, hB2.out⟩
  go_wp2_with fail
  refine (pneedBare op 0 b n lo none none nl 0 0 lc 0 0 _).mono ?_
  rintro e u9 ⟨hN, hb9⟩
  have HB9 : Hid (Below w.heap.size w u9) := below_go (below_set (below_set (below_set (hB2.out) 1 _) 5 _) 6 _) hb9
  clear hb9
  rw [HQ.out] at hN
  rcases hN with ⟨h, rfl⟩ | ⟨h, rfl⟩
  · go_wp2
    go_end0
    exact ⟨.inl ⟨h, rfl⟩, HB9.out⟩
  · go_wp2
    exact ⟨rfl, .inr ⟨h, rfl⟩, HB9.out⟩

set_option maxHeartbeats 2000000 in
theorem pneedForm4 {I : World → Prop} (C : FormC I) (op a b n : Int) (ls : List Int) (lo bo eo : Option Addr) (nb ne lc bc ec : Nat) (w : World) (hf : form op = 4) (hI : I w) (hl : Ints w (.slice lo ls.length lc) ls) :
    Calls Tryd.prog 33 #[.agg #[.int .i64 op, .int .i64 a, .int .i64 b, .int .i64 n, .slice lo ls.length lc, .slice bo nb bc, .slice eo ne ec]] w fun e w' => Needs (okF 4 op a b n ls nb ne) 30 e ∧ Below w.heap.size w w' := by
  have hlen := hl.1
  have HT0 := Two.start w 26 op a b n (.slice lo ls.length lc) (.slice bo nb bc) (.slice eo ne ec)
  rw [show okF 4 op a b n ls nb ne = (idx a && bare 0 b n ls.length nb ne) from rfl]
  have HL := hideM hl
  generalize hnl : ls.length = nl at *
  generalize hq : bare 0 b n nl nb ne = q at *
  have HQ := hideM hq
  clear hq
  generalize hr : idx a = r at *
  have HR := hideM hr
  clear hr
  have HNL := hideM hnl
  have HT := hideM HT0
  have HF := hideM hf
  clear hl HT0 hnl hf
  go_enter Tryd.func33, Tryd.ntmps33
  go_wp2_with fail
  refine (C.form op _ (C.keep HT.out.bel hI)).mono ?_
  rintro e u ⟨rfl, hb⟩
  rw [HF.out]
  have hT := HT.out.on hb
  have HT1 := hideM hT
  obtain ⟨c0, c1, c2, c3, c4, c5, c6, e0, e1, e2, e3, e4, e5, e6, fz, bel, sz⟩ := hT
  clear HT hb
  have f1 := fz 1
  have f2 := fz 2
  have f3 := fz 3
  have f4 := fz 4
  have f5 := fz 5
  have f6 := fz 6
  have HB := hideM bel
  clear fz bel
  go_wp2_with fail
  refine (pneedIndices _ [a] _ (ints_new _ _ _ _ _ (by simp) (by show 1 ≤ _; omega))).mono ?_
  rintro e u2 ⟨hN, hu2⟩
  have hb2 : Below u.heap.size u u2 := by rw [hu2]; exact (Below.refl _ u).alloc (Nat.le_refl _) _
  clear hu2
  have hB2 := hideM (below_go HB.out hb2)
  have hall : [a].all idx = r := by rw [← HR.out]; simp
  rw [hall] at hN
  clear hall
  have hT := HT1.out.on hb2
  clear c0 c1 c2 c3 c4 c5 c6 e0 e1 e2 e3 e4 e5 e6 f1 f2 f3 f4 f5 f6 hb2 HT1 sz
  obtain ⟨c0, c1, c2, c3, c4, c5, c6, e0, e1, e2, e3, e4, e5, e6, fz, bel, sz⟩ := hT
  have f1 := fz 1
  have f2 := fz 2
  have f3 := fz 3
  have f4 := fz 4
  have f5 := fz 5
  have f6 := fz 6
  clear fz bel
  rcases hN with ⟨rfl, rfl⟩ | ⟨rfl, rfl⟩
  rotate_left
  · go_wp2
    exact ⟨rfl, .inr ⟨rfl, rfl⟩, hB2.out⟩
  go_wp2_with fail
  refine (pneedBare op 0 b n lo bo eo nl nb ne lc bc ec _).mono ?_
  rintro e u9 ⟨hN, hb9⟩
  have HB9 : Hid (Below w.heap.size w u9) := below_go (below_set (hB2.out) 1 _) hb9
  clear hb9
  rw [HQ.out] at hN
  rcases hN with ⟨h, rfl⟩ | ⟨h, rfl⟩
  · go_wp2
    go_end0
    exact ⟨.inl ⟨h, rfl⟩, HB9.out⟩
  · go_wp2
    exact ⟨rfl, .inr ⟨h, rfl⟩, HB9.out⟩

set_option maxHeartbeats 2000000 in
theorem pneedForm6 {I : World → Prop} (C : FormC I) (op a b n : Int) (ls : List Int) (lo bo eo : Option Addr) (nb ne lc bc ec : Nat) (w : World) (hf : form op = 6) (hI : I w) (hl : Ints w (.slice lo ls.length lc) ls) :
    Calls Tryd.prog 33 #[.agg #[.int .i64 op, .int .i64 a, .int .i64 b, .int .i64 n, .slice lo ls.length lc, .slice bo nb bc, .slice eo ne ec]] w fun e w' => Needs (okF 6 op a b n ls nb ne) 30 e ∧ Below w.heap.size w w' := by
  have hlen := hl.1
  have HT0 := Two.start w 26 op a b n (.slice lo ls.length lc) (.slice bo nb bc) (.slice eo ne ec)
  rw [show okF 6 op a b n ls nb ne = (idx a && bare 0 b n ls.length nb ne) from rfl]
  have HL := hideM hl
  generalize hnl : ls.length = nl at *
  generalize hq : bare 0 b n nl nb ne = q at *
  have HQ := hideM hq
  clear hq
  generalize hr : idx a = r at *
  have HR := hideM hr
  clear hr
  have HNL := hideM hnl
  have HT := hideM HT0
  have HF := hideM hf
  clear hl HT0 hnl hf
  go_enter Tryd.func33, Tryd.ntmps33
  go_wp2_with fail
  refine (C.form op _ (C.keep HT.out.bel hI)).mono ?_
  rintro e u ⟨rfl, hb⟩
  rw [HF.out]
  have hT := HT.out.on hb
  have HT1 := hideM hT
  obtain ⟨c0, c1, c2, c3, c4, c5, c6, e0, e1, e2, e3, e4, e5, e6, fz, bel, sz⟩ := hT
  clear HT hb
  have f1 := fz 1
  have f2 := fz 2
  have f3 := fz 3
  have f4 := fz 4
  have f5 := fz 5
  have f6 := fz 6
  have HB := hideM bel
  clear fz bel
  go_wp2_with fail
  refine (pneedIndices _ [a] _ (ints_new _ _ _ _ _ (by simp) (by show 1 ≤ _; omega))).mono ?_
  rintro e u2 ⟨hN, hu2⟩
  have hb2 : Below u.heap.size u u2 := by rw [hu2]; exact (Below.refl _ u).alloc (Nat.le_refl _) _
  clear hu2
  have hB2 := hideM (below_go HB.out hb2)
  have hall : [a].all idx = r := by rw [← HR.out]; simp
  rw [hall] at hN
  clear hall
  have hT := HT1.out.on hb2
  clear c0 c1 c2 c3 c4 c5 c6 e0 e1 e2 e3 e4 e5 e6 f1 f2 f3 f4 f5 f6 hb2 HT1 sz
  obtain ⟨c0, c1, c2, c3, c4, c5, c6, e0, e1, e2, e3, e4, e5, e6, fz, bel, sz⟩ := hT
  have f1 := fz 1
  have f2 := fz 2
  have f3 := fz 3
  have f4 := fz 4
  have f5 := fz 5
  have f6 := fz 6
  clear fz bel
  rcases hN with ⟨rfl, rfl⟩ | ⟨rfl, rfl⟩
  rotate_left
  · go_wp2
    exact ⟨rfl, .inr ⟨rfl, rfl⟩, hB2.out⟩
  go_wp2_with fail
  refine (pneedBare op 0 b n lo bo eo nl nb ne lc bc ec _).mono ?_
  rintro e u9 ⟨hN, hb9⟩
  have HB9 : Hid (Below w.heap.size w u9) := below_go (below_set (hB2.out) 1 _) hb9
  clear hb9
  rw [HQ.out] at hN
  rcases hN with ⟨h, rfl⟩ | ⟨h, rfl⟩
  · go_wp2
    go_end0
    exact ⟨.inl ⟨h, rfl⟩, HB9.out⟩
  · go_wp2
    exact ⟨rfl, .inr ⟨h, rfl⟩, HB9.out⟩

set_option maxHeartbeats 2000000 in
theorem pneedForm7 {I : World → Prop} (C : FormC I) (op a b n : Int) (ls : List Int) (lo bo eo : Option Addr) (nb ne lc bc ec : Nat) (w : World) (hf : form op = 7) (hI : I w) (hl : Ints w (.slice lo ls.length lc) ls) :
    Calls Tryd.prog 33 #[.agg #[.int .i64 op, .int .i64 a, .int .i64 b, .int .i64 n, .slice lo ls.length lc, .slice bo nb bc, .slice eo ne ec]] w fun e w' => Needs (okF 7 op a b n ls nb ne) 30 e ∧ Below w.heap.size w w' := by
  have hlen := hl.1
  have HT0 := Two.start w 26 op a b n (.slice lo ls.length lc) (.slice bo nb bc) (.slice eo ne ec)
  rw [show okF 7 op a b n ls nb ne = (idx a && bare 0 b n ls.length nb ne) from rfl]
  have HL := hideM hl
  generalize hnl : ls.length = nl at *
  generalize hq : bare 0 b n nl nb ne = q at *
  have HQ := hideM hq
  clear hq
  generalize hr : idx a = r at *
  have HR := hideM hr
  clear hr
  have HNL := hideM hnl
  have HT := hideM HT0
  have HF := hideM hf
  clear hl HT0 hnl hf
  go_enter Tryd.func33, Tryd.ntmps33
  go_wp2_with fail
  refine (C.form op _ (C.keep HT.out.bel hI)).mono ?_
  rintro e u ⟨rfl, hb⟩
  rw [HF.out]
  have hT := HT.out.on hb
  have HT1 := hideM hT
  obtain ⟨c0, c1, c2, c3, c4, c5, c6, e0, e1, e2, e3, e4, e5, e6, fz, bel, sz⟩ := hT
  clear HT hb
  have f1 := fz 1
  have f2 := fz 2
  have f3 := fz 3
  have f4 := fz 4
  have f5 := fz 5
  have f6 := fz 6
  have HB := hideM bel
  clear fz bel
  go_wp2_with fail
  refine (pneedIndices _ [a] _ (ints_new _ _ _ _ _ (by simp) (by show 1 ≤ _; omega))).mono ?_
  rintro e u2 ⟨hN, hu2⟩
  have hb2 : Below u.heap.size u u2 := by rw [hu2]; exact (Below.refl _ u).alloc (Nat.le_refl _) _
  clear hu2
  have hB2 := hideM (below_go HB.out hb2)
  have hall : [a].all idx = r := by rw [← HR.out]; simp
  rw [hall] at hN
  clear hall
  have hT := HT1.out.on hb2
  clear c0 c1 c2 c3 c4 c5 c6 e0 e1 e2 e3 e4 e5 e6 f1 f2 f3 f4 f5 f6 hb2 HT1 sz
  obtain ⟨c0, c1, c2, c3, c4, c5, c6, e0, e1, e2, e3, e4, e5, e6, fz, bel, sz⟩ := hT
  have f1 := fz 1
  have f2 := fz 2
  have f3 := fz 3
  have f4 := fz 4
  have f5 := fz 5
  have f6 := fz 6
  clear fz bel
  rcases hN with ⟨rfl, rfl⟩ | ⟨rfl, rfl⟩
  rotate_left
  · go_wp2
    exact ⟨rfl, .inr ⟨rfl, rfl⟩, hB2.out⟩
  go_wp2_with fail
  refine (pneedBare op 0 b n lo bo eo nl nb ne lc bc ec _).mono ?_
  rintro e u9 ⟨hN, hb9⟩
  have HB9 : Hid (Below w.heap.size w u9) := below_go (below_set (hB2.out) 1 _) hb9
  clear hb9
  rw [HQ.out] at hN
  rcases hN with ⟨h, rfl⟩ | ⟨h, rfl⟩
  · go_wp2
    go_end0
    exact ⟨.inl ⟨h, rfl⟩, HB9.out⟩
  · go_wp2
    exact ⟨rfl, .inr ⟨h, rfl⟩, HB9.out⟩

set_option maxHeartbeats 2000000 in
theorem pneedForm5 {I : World → Prop} (C : FormC I) (op a b n : Int) (ls : List Int) (lo bo eo : Option Addr) (nb ne lc bc ec : Nat) (w : World) (hf : form op = 5) (hI : I w) (hl : Ints w (.slice lo ls.length lc) ls) :
    Calls Tryd.prog 33 #[.agg #[.int .i64 op, .int .i64 a, .int .i64 b, .int .i64 n, .slice lo ls.length lc, .slice bo nb bc, .slice eo ne ec]] w fun e w' => Needs (okF 5 op a b n ls nb ne) 30 e ∧ Below w.heap.size w w' := by
  have hlen := hl.1
  have HT0 := Two.start w 26 op a b n (.slice lo ls.length lc) (.slice bo nb bc) (.slice eo ne ec)
  rw [show okF 5 op a b n ls nb ne = (idx a && ls.all idx && bare 0 b n 0 nb ne) from rfl]
  have HL := hideM hl
  generalize hnl : ls.length = nl at *
  generalize hq : bare 0 b n 0 nb ne = q at *
  have HQ := hideM hq
  clear hq
  generalize hr : idx a = r at *
  have HR := hideM hr
  clear hr
  generalize hr2 : ls.all idx = r2 at *
  have HR2 := hideM hr2
  clear hr2
  have HNL := hideM hnl
  have HT := hideM HT0
  have HF := hideM hf
  clear hl HT0 hnl hf
  go_enter Tryd.func33, Tryd.ntmps33
  go_wp2_with fail
  refine (C.form op _ (C.keep HT.out.bel hI)).mono ?_
  rintro e u ⟨rfl, hb⟩
  rw [HF.out]
  have hT := HT.out.on hb
  have HT1 := hideM hT
  obtain ⟨c0, c1, c2, c3, c4, c5, c6, e0, e1, e2, e3, e4, e5, e6, fz, bel, sz⟩ := hT
  clear HT hb
  have f1 := fz 1
  have f2 := fz 2
  have f3 := fz 3
  have f4 := fz 4
  have f5 := fz 5
  have f6 := fz 6
  have HB := hideM bel
  clear fz bel
  go_wp2_with fail
  refine (pneedIndices _ [a] _ (ints_new _ _ _ _ _ (by simp) (by show 1 ≤ _; omega))).mono ?_
  rintro e u2 ⟨hN, hu2⟩
  have hb2 : Below u.heap.size u u2 := by rw [hu2]; exact (Below.refl _ u).alloc (Nat.le_refl _) _
  clear hu2
  have hB2 := hideM (below_go HB.out hb2)
  have hall : [a].all idx = r := by rw [← HR.out]; simp
  rw [hall] at hN
  clear hall
  have hT := HT1.out.on hb2
  clear c0 c1 c2 c3 c4 c5 c6 e0 e1 e2 e3 e4 e5 e6 f1 f2 f3 f4 f5 f6 hb2 HT1 sz
  obtain ⟨c0, c1, c2, c3, c4, c5, c6, e0, e1, e2, e3, e4, e5, e6, fz, bel, sz⟩ := hT
  have f1 := fz 1
  have f2 := fz 2
  have f3 := fz 3
  have f4 := fz 4
  have f5 := fz 5
  have f6 := fz 6
  clear fz bel
  rcases hN with ⟨rfl, rfl⟩ | ⟨rfl, rfl⟩
  rotate_left
  · go_wp2
    exact ⟨rfl, .inr ⟨rfl, rfl⟩, hB2.out⟩
  go_wp2_with fail
  refine (pneedIndices _ ls _ (HL.out.on hB2.out)).mono ?_
  rintro e u3 ⟨hN, rfl⟩
  rw [HR2.out] at hN
  rcases hN with ⟨rfl, rfl⟩ | ⟨rfl, rfl⟩
  rotate_left
  · go_wp2
    exact ⟨rfl, .inr ⟨rfl, rfl⟩, hB2.out⟩
  go_wp2_with fail
  refine (pneedBare op 0 b n none bo eo 0 nb ne 0 bc ec _).mono ?_
  rintro e u9 ⟨hN, hb9⟩
  have HB9 : Hid (Below w.heap.size w u9) := below_go (below_set (below_set (hB2.out) 1 _) 4 _) hb9
  clear hb9
  rw [HQ.out] at hN
  rcases hN with ⟨h, rfl⟩ | ⟨h, rfl⟩
  · go_wp2
    go_end0
    exact ⟨.inl ⟨h, rfl⟩, HB9.out⟩
  · go_wp2
    exact ⟨rfl, .inr ⟨h, rfl⟩, HB9.out⟩

set_option maxHeartbeats 2000000 in
theorem pneedForm8 {I : World → Prop} (C : FormC I) (op a b n : Int) (ls : List Int) (lo bo eo : Option Addr) (nb ne lc bc ec : Nat) (w : World) (hf : form op = 8) (hI : I w) (hl : Ints w (.slice lo ls.length lc) ls) :
    Calls Tryd.prog 33 #[.agg #[.int .i64 op, .int .i64 a, .int .i64 b, .int .i64 n, .slice lo ls.length lc, .slice bo nb bc, .slice eo ne ec]] w fun e w' => Needs (okF 8 op a b n ls nb ne) 30 e ∧ Below w.heap.size w w' := by
  have hlen := hl.1
  have HT0 := Two.start w 26 op a b n (.slice lo ls.length lc) (.slice bo nb bc) (.slice eo ne ec)
  rw [show okF 8 op a b n ls nb ne = ((idx a && idx b) && bare 0 0 n ls.length nb ne) from rfl]
  have HL := hideM hl
  generalize hnl : ls.length = nl at *
  generalize hq : bare 0 0 n nl nb ne = q at *
  have HQ := hideM hq
  clear hq
  generalize hr : (idx a && idx b) = r at *
  have HR := hideM hr
  clear hr
  have HNL := hideM hnl
  have HT := hideM HT0
  have HF := hideM hf
  clear hl HT0 hnl hf
  go_enter Tryd.func33, Tryd.ntmps33
  go_wp2_with fail
  refine (C.form op _ (C.keep HT.out.bel hI)).mono ?_
  rintro e u ⟨rfl, hb⟩
  rw [HF.out]
  have hT := HT.out.on hb
  have HT1 := hideM hT
  obtain ⟨c0, c1, c2, c3, c4, c5, c6, e0, e1, e2, e3, e4, e5, e6, fz, bel, sz⟩ := hT
  clear HT hb
  have f1 := fz 1
  have f2 := fz 2
  have f3 := fz 3
  have f4 := fz 4
  have f5 := fz 5
  have f6 := fz 6
  have HB := hideM bel
  clear fz bel
  go_wp2_with fail
  refine (pneedIndices _ [a, b] _ (ints_new _ _ _ _ _ (by simp) (by show 2 ≤ _; omega))).mono ?_
  rintro e u2 ⟨hN, hu2⟩
  have hb2 : Below u.heap.size u u2 := by rw [hu2]; exact (Below.refl _ u).alloc (Nat.le_refl _) _
  clear hu2
  have hB2 := hideM (below_go HB.out hb2)
  have hall : [a, b].all idx = r := by rw [← HR.out]; simp
  rw [hall] at hN
  clear hall
  have hT := HT1.out.on hb2
  clear c0 c1 c2 c3 c4 c5 c6 e0 e1 e2 e3 e4 e5 e6 f1 f2 f3 f4 f5 f6 hb2 HT1 sz
  obtain ⟨c0, c1, c2, c3, c4, c5, c6, e0, e1, e2, e3, e4, e5, e6, fz, bel, sz⟩ := hT
  have f1 := fz 1
  have f2 := fz 2
  have f3 := fz 3
  have f4 := fz 4
  have f5 := fz 5
  have f6 := fz 6
  clear fz bel
  rcases hN with ⟨rfl, rfl⟩ | ⟨rfl, rfl⟩
  rotate_left
  · go_wp2
    exact ⟨rfl, .inr ⟨rfl, rfl⟩, hB2.out⟩
  go_wp2_with fail
  refine (pneedBare op 0 0 n lo bo eo nl nb ne lc bc ec _).mono ?_
  rintro e u9 ⟨hN, hb9⟩
  have HB9 : Hid (Below w.heap.size w u9) := below_go (below_set (below_set (hB2.out) 1 _) 2 _) hb9
  clear hb9
  rw [HQ.out] at hN
  rcases hN with ⟨h, rfl⟩ | ⟨h, rfl⟩
  · go_wp2
    go_end0
    exact ⟨.inl ⟨h, rfl⟩, HB9.out⟩
  · go_wp2
    exact ⟨rfl, .inr ⟨h, rfl⟩, HB9.out⟩

set_option maxHeartbeats 2000000 in
theorem pneedForm9a {I : World → Prop} (C : FormC I) (op a b n : Int) (ls : List Int) (lo bo eo : Option Addr) (nb ne lc bc ec : Nat) (w : World) (hf : form op = 9) (d1 : (op == 66) = true) (hI : I w) (hl : Ints w (.slice lo ls.length lc) ls) :
    Calls Tryd.prog 33 #[.agg #[.int .i64 op, .int .i64 a, .int .i64 b, .int .i64 n, .slice lo ls.length lc, .slice bo nb bc, .slice eo ne ec]] w fun e w' => Needs (okF 9 op a b n ls nb ne) 30 e ∧ Below w.heap.size w w' := by
  have hlen := hl.1
  have HT0 := Two.start w 26 op a b n (.slice lo ls.length lc) (.slice bo nb bc) (.slice eo ne ec)
  rw [show okF 9 op a b n ls nb ne = ((op == 66 || (decide (-2147483648 ≤ n) && decide (n ≤ 2147483647))) && bare a b 0 ls.length nb ne) from rfl]
  rw [d1, Bool.true_or, Bool.true_and]
  have HL := hideM hl
  generalize hnl : ls.length = nl at *
  generalize hq : bare a b 0 nl nb ne = q at *
  have HQ := hideM hq
  clear hq
  have HNL := hideM hnl
  have HT := hideM HT0
  have HF := hideM hf
  clear hl HT0 hnl hf
  go_enter Tryd.func33, Tryd.ntmps33
  go_wp2_with fail
  refine (C.form op _ (C.keep HT.out.bel hI)).mono ?_
  rintro e u ⟨rfl, hb⟩
  rw [HF.out]
  have hT := HT.out.on hb
  have HT1 := hideM hT
  obtain ⟨c0, c1, c2, c3, c4, c5, c6, e0, e1, e2, e3, e4, e5, e6, fz, bel, sz⟩ := hT
  clear HT hb
  have f3 := fz 3
  have HB := hideM bel
  clear fz bel
  go_wp2_with fail
  refine (pNeed true _ _).mono ?_
  rintro e u2 ⟨hN, rfl⟩
  obtain rfl := hN.yes
  go_wp2_with fail
  refine (pneedBare op a b 0 lo bo eo nl nb ne lc bc ec _).mono ?_
  rintro e u9 ⟨hN, hb9⟩
  have HB9 : Hid (Below w.heap.size w u9) := below_go (below_set HB.out 3 _) hb9
  clear hb9
  rw [HQ.out] at hN
  rcases hN with ⟨h, rfl⟩ | ⟨h, rfl⟩
  · go_wp2
    go_end0
    exact ⟨.inl ⟨h, rfl⟩, HB9.out⟩
  · go_wp2
    exact ⟨rfl, .inr ⟨h, rfl⟩, HB9.out⟩

set_option maxHeartbeats 2000000 in
theorem pneedForm9b {I : World → Prop} (C : FormC I) (op a b n : Int) (ls : List Int) (lo bo eo : Option Addr) (nb ne lc bc ec : Nat) (w : World) (hf : form op = 9) (d1 : (op == 66) = false) (d2 : decide (-2147483648 ≤ n) = true) (d3 : decide (n ≤ 2147483647) = true) (hI : I w) (hl : Ints w (.slice lo ls.length lc) ls) :
    Calls Tryd.prog 33 #[.agg #[.int .i64 op, .int .i64 a, .int .i64 b, .int .i64 n, .slice lo ls.length lc, .slice bo nb bc, .slice eo ne ec]] w fun e w' => Needs (okF 9 op a b n ls nb ne) 30 e ∧ Below w.heap.size w w' := by
  have hlen := hl.1
  have HT0 := Two.start w 26 op a b n (.slice lo ls.length lc) (.slice bo nb bc) (.slice eo ne ec)
  rw [show okF 9 op a b n ls nb ne = ((op == 66 || (decide (-2147483648 ≤ n) && decide (n ≤ 2147483647))) && bare a b 0 ls.length nb ne) from rfl]
  rw [d1, d2, d3, Bool.and_self, Bool.or_true, Bool.true_and]
  have HL := hideM hl
  generalize hnl : ls.length = nl at *
  generalize hq : bare a b 0 nl nb ne = q at *
  have HQ := hideM hq
  clear hq
  have HNL := hideM hnl
  have HT := hideM HT0
  have HF := hideM hf
  clear hl HT0 hnl hf
  go_enter Tryd.func33, Tryd.ntmps33
  go_wp2_with fail
  refine (C.form op _ (C.keep HT.out.bel hI)).mono ?_
  rintro e u ⟨rfl, hb⟩
  rw [HF.out]
  have hT := HT.out.on hb
  have HT1 := hideM hT
  obtain ⟨c0, c1, c2, c3, c4, c5, c6, e0, e1, e2, e3, e4, e5, e6, fz, bel, sz⟩ := hT
  clear HT hb
  have f3 := fz 3
  have HB := hideM bel
  clear fz bel
  go_wp2_with fail
  refine (pNeed true _ _).mono ?_
  rintro e u2 ⟨hN, rfl⟩
  obtain rfl := hN.yes
  go_wp2_with fail
  refine (pneedBare op a b 0 lo bo eo nl nb ne lc bc ec _).mono ?_
  rintro e u9 ⟨hN, hb9⟩
  have HB9 : Hid (Below w.heap.size w u9) := below_go (below_set HB.out 3 _) hb9
  clear hb9
  rw [HQ.out] at hN
  rcases hN with ⟨h, rfl⟩ | ⟨h, rfl⟩
  · go_wp2
    go_end0
    exact ⟨.inl ⟨h, rfl⟩, HB9.out⟩
  · go_wp2
    exact ⟨rfl, .inr ⟨h, rfl⟩, HB9.out⟩

set_option maxHeartbeats 2000000 in
theorem pneedForm9c {I : World → Prop} (C : FormC I) (op a b n : Int) (ls : List Int) (lo bo eo : Option Addr) (nb ne lc bc ec : Nat) (w : World) (hf : form op = 9) (d1 : (op == 66) = false) (d2 : decide (-2147483648 ≤ n) = true) (d3 : decide (n ≤ 2147483647) = false) (hI : I w) (hl : Ints w (.slice lo ls.length lc) ls) :
    Calls Tryd.prog 33 #[.agg #[.int .i64 op, .int .i64 a, .int .i64 b, .int .i64 n, .slice lo ls.length lc, .slice bo nb bc, .slice eo ne ec]] w fun e w' => Needs (okF 9 op a b n ls nb ne) 30 e ∧ Below w.heap.size w w' := by
  have hlen := hl.1
  have HT0 := Two.start w 26 op a b n (.slice lo ls.length lc) (.slice bo nb bc) (.slice eo ne ec)
  rw [show okF 9 op a b n ls nb ne = ((op == 66 || (decide (-2147483648 ≤ n) && decide (n ≤ 2147483647))) && bare a b 0 ls.length nb ne) from rfl]
  rw [d1, d2, d3, Bool.and_false, Bool.or_false, Bool.false_and]
  have HL := hideM hl
  generalize hnl : ls.length = nl at *
  generalize hq : bare a b 0 nl nb ne = q at *
  have HQ := hideM hq
  clear hq
  have HNL := hideM hnl
  have HT := hideM HT0
  have HF := hideM hf
  clear hl HT0 hnl hf
  go_enter Tryd.func33, Tryd.ntmps33
  go_wp2_with fail
  refine (C.form op _ (C.keep HT.out.bel hI)).mono ?_
  rintro e u ⟨rfl, hb⟩
  rw [HF.out]
  have hT := HT.out.on hb
  have HT1 := hideM hT
  obtain ⟨c0, c1, c2, c3, c4, c5, c6, e0, e1, e2, e3, e4, e5, e6, fz, bel, sz⟩ := hT
  clear HT hb
  have f3 := fz 3
  have HB := hideM bel
  clear fz bel
  go_wp2_with fail
  refine (pNeed false _ _).mono ?_
  rintro e u2 ⟨hN, rfl⟩
  obtain rfl := hN.no
  go_wp2
  exact ⟨rfl, .inr ⟨rfl, rfl⟩, HB.out⟩

set_option maxHeartbeats 2000000 in
theorem pneedForm9d {I : World → Prop} (C : FormC I) (op a b n : Int) (ls : List Int) (lo bo eo : Option Addr) (nb ne lc bc ec : Nat) (w : World) (hf : form op = 9) (d1 : (op == 66) = false) (d2 : decide (-2147483648 ≤ n) = false) (hI : I w) (hl : Ints w (.slice lo ls.length lc) ls) :
    Calls Tryd.prog 33 #[.agg #[.int .i64 op, .int .i64 a, .int .i64 b, .int .i64 n, .slice lo ls.length lc, .slice bo nb bc, .slice eo ne ec]] w fun e w' => Needs (okF 9 op a b n ls nb ne) 30 e ∧ Below w.heap.size w w' := by
  have hlen := hl.1
  have HT0 := Two.start w 26 op a b n (.slice lo ls.length lc) (.slice bo nb bc) (.slice eo ne ec)
  rw [show okF 9 op a b n ls nb ne = ((op == 66 || (decide (-2147483648 ≤ n) && decide (n ≤ 2147483647))) && bare a b 0 ls.length nb ne) from rfl]
  rw [d1, d2, Bool.false_and, Bool.or_false, Bool.false_and]
  have HL := hideM hl
  generalize hnl : ls.length = nl at *
  generalize hq : bare a b 0 nl nb ne = q at *
  have HQ := hideM hq
  clear hq
  have HNL := hideM hnl
  have HT := hideM HT0
  have HF := hideM hf
  clear hl HT0 hnl hf
  go_enter Tryd.func33, Tryd.ntmps33
  go_wp2_with fail
  refine (C.form op _ (C.keep HT.out.bel hI)).mono ?_
  rintro e u ⟨rfl, hb⟩
  rw [HF.out]
  have hT := HT.out.on hb
  have HT1 := hideM hT
  obtain ⟨c0, c1, c2, c3, c4, c5, c6, e0, e1, e2, e3, e4, e5, e6, fz, bel, sz⟩ := hT
  clear HT hb
  have f3 := fz 3
  have HB := hideM bel
  clear fz bel
  go_wp2_with fail
  refine (pNeed false _ _).mono ?_
  rintro e u2 ⟨hN, rfl⟩
  obtain rfl := hN.no
  go_wp2
  exact ⟨rfl, .inr ⟨rfl, rfl⟩, HB.out⟩

set_option maxHeartbeats 2000000 in
theorem pneedForm0 {I : World → Prop} (C : FormC I) (op a b n : Int) (ls : List Int) (lo bo eo : Option Addr) (nb ne lc bc ec : Nat) (w : World) (hf : form op = 0) (hI : I w) (hl : Ints w (.slice lo ls.length lc) ls) :
    Calls Tryd.prog 33 #[.agg #[.int .i64 op, .int .i64 a, .int .i64 b, .int .i64 n, .slice lo ls.length lc, .slice bo nb bc, .slice eo ne ec]] w fun e w' => Needs (okF 0 op a b n ls nb ne) 30 e ∧ Below w.heap.size w w' := by
  have hlen := hl.1
  have HT0 := Two.start w 26 op a b n (.slice lo ls.length lc) (.slice bo nb bc) (.slice eo ne ec)
  rw [show okF 0 op a b n ls nb ne = (false) from rfl]
  have HL := hideM hl
  generalize hnl : ls.length = nl at *
  have HNL := hideM hnl
  have HT := hideM HT0
  have HF := hideM hf
  clear hl HT0 hnl hf
  go_enter Tryd.func33, Tryd.ntmps33
  go_wp2_with fail
  refine (C.form op _ (C.keep HT.out.bel hI)).mono ?_
  rintro e u ⟨rfl, hb⟩
  rw [HF.out]
  have hT := HT.out.on hb
  have HT1 := hideM hT
  obtain ⟨c0, c1, c2, c3, c4, c5, c6, e0, e1, e2, e3, e4, e5, e6, fz, bel, sz⟩ := hT
  clear HT hb
  have HB := hideM bel
  clear fz bel
  go_wp2_with fail
  refine (pNeed false _ _).mono ?_
  rintro e u2 ⟨hN, rfl⟩
  obtain rfl := hN.no
  go_wp2
  exact ⟨rfl, .inr ⟨rfl, rfl⟩, HB.out⟩

set_option maxHeartbeats 2000000 in
theorem pneedForm10 {I : World → Prop} (C : FormC I) (op a b n : Int) (ls : List Int) (lo bo eo : Option Addr) (nb ne lc bc ec : Nat) (w : World) (hf : form op = 10) (hI : I w) (hl : Ints w (.slice lo ls.length lc) ls) :
    Calls Tryd.prog 33 #[.agg #[.int .i64 op, .int .i64 a, .int .i64 b, .int .i64 n, .slice lo ls.length lc, .slice bo nb bc, .slice eo ne ec]] w fun e w' => Needs (okF 10 op a b n ls nb ne) 30 e ∧ Below w.heap.size w w' := by
  have hlen := hl.1
  have HT0 := Two.start w 26 op a b n (.slice lo ls.length lc) (.slice bo nb bc) (.slice eo ne ec)
  rw [show okF 10 op a b n ls nb ne = (false) from rfl]
  have HL := hideM hl
  generalize hnl : ls.length = nl at *
  have HNL := hideM hnl
  have HT := hideM HT0
  have HF := hideM hf
  clear hl HT0 hnl hf
  go_enter Tryd.func33, Tryd.ntmps33
  go_wp2_with fail
  refine (C.form op _ (C.keep HT.out.bel hI)).mono ?_
  rintro e u ⟨rfl, hb⟩
  rw [HF.out]
  have hT := HT.out.on hb
  have HT1 := hideM hT
  obtain ⟨c0, c1, c2, c3, c4, c5, c6, e0, e1, e2, e3, e4, e5, e6, fz, bel, sz⟩ := hT
  clear HT hb
  have HB := hideM bel
  clear fz bel
  go_wp2_with fail
  refine (pNeed false _ _).mono ?_
  rintro e u2 ⟨hN, rfl⟩
  obtain rfl := hN.no
  go_wp2
  exact ⟨rfl, .inr ⟨rfl, rfl⟩, HB.out⟩

def FR (f : Int) : Prop := f = 0 ∨ f = 1 ∨ f = 2 ∨ f = 3 ∨ f = 4 ∨ f = 5 ∨ f = 6 ∨ f = 7 ∨ f = 8 ∨ f = 9 ∨ f = 10
theorem fr_ite {p : Prop} [Decidable p] {a b : Int} (ha : FR a) (hb : FR b) : FR (if p then a else b) := by split; exact ha; exact hb
theorem form_range (op : Int) : FR (form op) := by
  unfold form
  repeat refine fr_ite (by unfold FR; decide) ?_
  unfold FR; decide
theorem pneedForm {I : World → Prop} (C : FormC I) (op a b n : Int) (ls : List Int) (lo bo eo : Option Addr) (nb ne lc bc ec : Nat) (w : World) (hI : I w) (hl : Ints w (.slice lo ls.length lc) ls) :
    Calls Tryd.prog 33 #[.agg #[.int .i64 op, .int .i64 a, .int .i64 b, .int .i64 n, .slice lo ls.length lc, .slice bo nb bc, .slice eo ne ec]] w fun e w' => Needs (okF (form op) op a b n ls nb ne) 30 e ∧ Below w.heap.size w w' := by
  rcases form_range op with h | h | h | h | h | h | h | h | h | h | h
  · rw [h]; exact pneedForm0 C op a b n ls lo bo eo nb ne lc bc ec w h hI hl
  · rw [h]; exact pneedForm1 C op a b n ls lo bo eo nb ne lc bc ec w h hI hl
  · rw [h]; exact pneedForm2 C op a b n ls lo bo eo nb ne lc bc ec w h hI hl
  · rw [h]; exact pneedForm3 C op a b n ls lo bo eo nb ne lc bc ec w h hI hl
  · rw [h]; exact pneedForm4 C op a b n ls lo bo eo nb ne lc bc ec w h hI hl
  · rw [h]; exact pneedForm5 C op a b n ls lo bo eo nb ne lc bc ec w h hI hl
  · rw [h]; exact pneedForm6 C op a b n ls lo bo eo nb ne lc bc ec w h hI hl
  · rw [h]; exact pneedForm7 C op a b n ls lo bo eo nb ne lc bc ec w h hI hl
  · rw [h]; exact pneedForm8 C op a b n ls lo bo eo nb ne lc bc ec w h hI hl
  · rw [h]
    by_cases g1 : op = 66
    · exact pneedForm9a C op a b n ls lo bo eo nb ne lc bc ec w h (by simp [g1]) hI hl
    · by_cases g2 : -2147483648 ≤ n
      · by_cases g3 : n ≤ 2147483647
        · exact pneedForm9b C op a b n ls lo bo eo nb ne lc bc ec w h (by simp [g1]) (by simp [g2]) (by simp [g3]) hI hl
        · exact pneedForm9c C op a b n ls lo bo eo nb ne lc bc ec w h (by simp [g1]) (by simp [g2]) (by simp; omega) hI hl
      · exact pneedForm9d C op a b n ls lo bo eo nb ne lc bc ec w h (by simp [g1]) (by simp; omega) hI hl
  · rw [h]; exact pneedForm10 C op a b n ls lo bo eo nb ne lc bc ec w h hI hl

end Go.Proofs.YtlpnoelolkbmmaaDoor

namespace Go.Proofs.YtlpnoelolkbmmaaDoor
open Go.RowKit Rep
set_option linter.unusedVariables false

set_option maxHeartbeats 1000000 in
theorem pWalk0A {σ : Type} (cp : Value) (w0 : World) (S : Nat → Prop) (Inv : σ → World → Prop) (step : σ → Sn → Nat → Option σ) (k : Int) (o : Option Addr) (c : Nat) (l : IL 0) (dep : Nat) (s : σ) (w : World) (hs : Inv s w) :
    Calls Tryd.prog 42 #[.slice o 0 c, .int .i64 dep, .func (.func 41) #[] #[cp]] w fun e w' =>
      Kp S w w' ∧ ((∃ s', goI step 0 l dep s = some s' ∧ e = .returned (.tuple #[]) ∧ Inv s' w') ∨ (goI step 0 l dep s = none ∧ e = .panicked (gave k))) := by
  have Hs := hideM hs
  clear hs
  go_enter Tryd.func42, Tryd.ntmps42
  go_wp2_with fail
  go_loopw [10] (fun i wr => i = .int .i64 0 ∧ wr = w) (fun i _ => 0)
  case atStart => exact ⟨rfl, rfl⟩
  case round =>
    obtain ⟨rfl, rfl⟩ := hrel
    go_wp2
    go_end0
    exact ⟨Kp.refl S _, .inl ⟨s, rfl, rfl, Hs.out⟩⟩

set_option maxHeartbeats 2000000 in
theorem pWalkSA {σ : Type} (cp : Value) (w0 : World) (S : Nat → Prop) (hS : ∀ k, S k → w0.heap.size ≤ k) (Inv : σ → World → Prop) (hI : ∀ s w w', Below w.heap.size w w' → Inv s w → Inv s w')
    (step : σ → Sn → Nat → Option σ) (k : Int) (see : SeeC 41 (fun x y => #[x, y, cp]) w0 S Inv step k) (d : Nat) (IH : WalkSays (.func (.func 41) #[] #[cp]) w0 S Inv step k d)
    (v : Value) (l : List (Ins (IL d))) (dep : Nat) (s : σ) (w : World) (hAt : Row 7 (InsAt w0 (At w0 d)) v l) (hb : Below w0.heap.size w0 w) (hs : Inv s w) (hS2 : ∀ k, S k → k < w.heap.size) (hd : dep + (d + 1) ≤ 4611686018427387904) :
    Calls Tryd.prog 42 #[v, .int .i64 dep, .func (.func 41) #[] #[cp]] w fun e w' =>
      Kp S w w' ∧ ((∃ s', rest step d l dep 0 s = some s' ∧ e = .returned (.tuple #[]) ∧ Inv s' w') ∨ (rest step d l dep 0 s = none ∧ e = .panicked (gave k))) := by
  have hlen := hAt.1
  obtain ⟨o, cap2, hv⟩ := Row.len hAt
  have hx := Row.some hAt
  subst hv
  obtain ⟨R, hR⟩ : ∃ R, R = rest step d l dep 0 s := ⟨_, rfl⟩
  rw [← hR]
  have HR := hideM hR
  have HX := hideM hx
  clear hx hAt hR
  generalize hn : l.length = n at *
  have HSee := hideM see
  have HIH := hideM IH
  have HI := hideM hI
  have HS := hideM hS
  have HS2 := hideM hS2
  have HB := hideM hb
  have Hs := hideM hs
  clear see IH hI hS hb hs hS2
  go_enter Tryd.func42, Tryd.ntmps42
  go_wp2_with fail
  go_loopw [10] (fun i wr => ∃ (j : Nat) (sj : σ), j ≤ n ∧ i = .int .i64 j ∧ Hid (R = rest step d l dep j sj) ∧ Hid (Kp S w wr) ∧ Hid (Inv sj wr)) (fun i _ => n - (RowKit.intOf i).toNat)
  case atStart => exact ⟨0, s, by omega, rfl, HR, Kp.refl S w, Hs⟩
  case round =>
    obtain ⟨j, sj, hj, rfl, HK, HKP, HSJ⟩ := hrel
    by_cases hgo : j < n
    · obtain ⟨b, off, cap3, hv2, hx⟩ := HX.out (by omega)
      injection hv2 with ho h2 h3
      subst ho
      obtain ⟨x, hxk⟩ : ∃ x, l[j]? = some x := ⟨_, List.getElem?_eq_getElem (by omega)⟩
      have hbr := Kp.below HS.out HB.out HKP.out
      have hx' := (hx j x hxk).on hbr (At.on hbr d)
      have c0 := hx'.op
      have c1 := hx'.a
      have c2 := hx'.b
      have c3 := hx'.n
      obtain ⟨lv, c4, a4⟩ := hx'.labels
      obtain ⟨bv, c5, _⟩ := hx'.body
      obtain ⟨ev, c6, _⟩ := hx'.els
      obtain ⟨bv', c5', a5⟩ := (hx j x hxk).body
      obtain ⟨ev', c6', a6⟩ := (hx j x hxk).els
      obtain rfl : bv' = bv := Option.some.inj ((cell_on hbr c5').symm.trans c5)
      obtain rfl : ev' = ev := Option.some.inj ((cell_on hbr c6').symm.trans c6)
      have HN := hideM (HK.out.trans (rest_on hxk))
      obtain ⟨lo, lc, rfl⟩ := Row.len a4
      obtain ⟨bo, bc, rfl⟩ := At.len d bv' x.body a5
      obtain ⟨eo, ec, rfl⟩ := At.len d ev' x.els a6
      have HSN := HSee.out sj (sn x) (.slice lo x.labels.length lc) (.slice bo (size d x.body) bc) (.slice eo (size d x.els) ec) dep
      generalize hnb : size d x.body = nb at *
      generalize hne : size d x.els = ne at *
      generalize hnl : x.labels.length = nl at *
      have A4 := hideM a4
      have A5 := hideM a5
      have A6 := hideM a6
      have HNB := hideM hnb
      have HNE := hideM hne
      have HNL := hideM hnl
      have HBR := hideM hbr
      have HSX := hideM HSN
      clear hx' h2 h3 HX a4 a5 a6 hxk hnb hne hnl hbr hx c5' c6' HSN HK
      go_upto_region 3 with fail
      obtain ⟨wa, hwa⟩ : ∃ wa, wa = wr.alloc (Obj.cells #[.int .i64 x.op, .int .i64 x.a, .int .i64 x.b, .int .i64 x.n, .slice lo nl lc, .slice bo nb bc, .slice eo ne ec] 26) := ⟨_, rfl⟩
      rw [← hwa]
      have hsz : wa.heap.size = wr.heap.size + 1 := by rw [hwa]; exact size_alloc _ _
      have n0 : wa.cell? ⟨wr.heap.size, 0, none⟩ = some (.int .i64 x.op) := by rw [hwa]; exact new_cell _ _ _ _ _ rfl
      have n1 : wa.cell? ⟨wr.heap.size, 1, none⟩ = some (.int .i64 x.a) := by rw [hwa]; exact new_cell _ _ _ _ _ rfl
      have n2 : wa.cell? ⟨wr.heap.size, 2, none⟩ = some (.int .i64 x.b) := by rw [hwa]; exact new_cell _ _ _ _ _ rfl
      have n3 : wa.cell? ⟨wr.heap.size, 3, none⟩ = some (.int .i64 x.n) := by rw [hwa]; exact new_cell _ _ _ _ _ rfl
      have n4 : wa.cell? ⟨wr.heap.size, 4, none⟩ = some (.slice lo nl lc) := by rw [hwa]; exact new_cell _ _ _ _ _ rfl
      have n5 : wa.cell? ⟨wr.heap.size, 5, none⟩ = some (.slice bo nb bc) := by rw [hwa]; exact new_cell _ _ _ _ _ rfl
      have n6 : wa.cell? ⟨wr.heap.size, 6, none⟩ = some (.slice eo ne ec) := by rw [hwa]; exact new_cell _ _ _ _ _ rfl
      have hka : Hid (Kp S w wa) := by rw [hwa]; exact HKP.out.alloc _
      have hra : Below wr.heap.size wr wa := by rw [hwa]; exact (Below.refl _ wr).alloc (Nat.le_refl _) _
      have HRA := hideM hra
      clear hwa hra c0 c1 c2 c3 c4 c5 c6
      go_wp2_with fail
      refine (HSX.out wa (Kp.below HS.out HB.out hka.out) (HI.out _ _ _ HRA.out HSJ.out) (A4.out.on HRA.out) ⟨bo, bc, by rw [← HNB.out]; rfl⟩ ⟨eo, ec, by rw [← HNE.out]; rfl⟩ (by omega)).mono ?_
      rintro e u ⟨hk1, hcase⟩
      have HK1 := hideM hk1
      have hwr : ¬ S wr.heap.size := fun hh => by have h1 := HS2.out _ hh; have h2 := HKP.out.size; omega
      have HWR := hideM hwr
      have hku := hideM (hka.out.trans hk1)
      have m5 := (hk1.cell (p := ⟨wr.heap.size, 5, none⟩) (by show wr.heap.size < _; omega) hwr).trans n5
      have m6 := (hk1.cell (p := ⟨wr.heap.size, 6, none⟩) (by show wr.heap.size < _; omega) hwr).trans n6
      have hus := hk1.size
      clear hk1 hwr n0 n1 n2 n3 n4 n5 n6
      rcases hcase with ⟨s1, e1, rfl, i1⟩ | ⟨e1, rfl⟩
      · have I1 := hideM i1
        have E1 := hideM e1
        clear i1 e1
        go_wp2_with fail
        refine (HIH.out _ x.body (dep + 1) s1 u A5.out (Kp.below HS.out HB.out hku.out) I1.out (fun q hq => Nat.lt_of_lt_of_le (HS2.out q hq) hku.out.size) (by omega)).mono ?_
        rintro e u2 ⟨hk2, hcase⟩
        have hku2 := hideM (hku.out.trans hk2)
        have p6 := (hk2.cell (p := ⟨wr.heap.size, 6, none⟩) (by show wr.heap.size < _; omega) HWR.out).trans m6
        clear hk2 m5 m6
        rcases hcase with ⟨s2, e2, rfl, i2⟩ | ⟨e2, rfl⟩
        · have I2 := hideM i2
          have E2 := hideM e2
          clear i2 e2
          go_wp2_with fail
          refine (HIH.out _ x.els (dep + 1) s2 u2 A6.out (Kp.below HS.out HB.out hku2.out) I2.out (fun q hq => Nat.lt_of_lt_of_le (HS2.out q hq) hku2.out.size) (by omega)).mono ?_
          rintro e u3 ⟨hk3, hcase⟩
          have hku3 := hideM (hku2.out.trans hk3)
          clear hk3 p6
          rcases hcase with ⟨s3, e3, rfl, i3⟩ | ⟨e3, rfl⟩
          · have HF : Hid (R = rest step d l dep (j + 1) s3) := by
              have := HN.out; rw [E1.out, Option.bind_some, E2.out, Option.bind_some, e3, Option.bind_some] at this; exact this
            have I3 := hideM i3
            clear i3 e3
            go_wp2
            go_roundw
            case rel => exact ⟨j + 1, s3, by omega, by go_num, HF, hku3, I3⟩
            case measure => simp [RowKit.intOf]; omega
          · have HF : R = none := by
              have := HN.out; rw [E1.out, Option.bind_some, E2.out, Option.bind_some, e3, Option.bind_none] at this; exact this
            go_wp2
            exact ⟨rfl, hku3.out, .inr ⟨HF, rfl⟩⟩
        · have HF : R = none := by
            have := HN.out; rw [E1.out, Option.bind_some, e2, Option.bind_none] at this; exact this
          go_wp2
          exact ⟨rfl, hku2.out, .inr ⟨HF, rfl⟩⟩
      · have HF : R = none := by
          have := HN.out; rw [e1, Option.bind_none] at this; exact this
        go_wp2
        exact ⟨rfl, hku.out, .inr ⟨HF, rfl⟩⟩
    · have HE : R = some sj := HK.out.trans (rest_end (by omega))
      have HEE := hideM HE
      clear HE HK
      go_wp2
      go_end0
      exact ⟨HKP.out, .inl ⟨sj, HEE.out, rfl, HSJ.out⟩⟩

theorem pWalkA {σ : Type} (cp : Value) (w0 : World) (S : Nat → Prop) (hS : ∀ k, S k → w0.heap.size ≤ k) (Inv : σ → World → Prop) (hI : ∀ s w w', Below w.heap.size w w' → Inv s w → Inv s w')
    (step : σ → Sn → Nat → Option σ) (k : Int) (see : SeeC 41 (fun x y => #[x, y, cp]) w0 S Inv step k) : ∀ (d : Nat), WalkSays (.func (.func 41) #[] #[cp]) w0 S Inv step k d
  | 0 => fun v l dep s w ⟨o, c, hv⟩ hb hs hS2 hd => by
    subst hv
    exact pWalk0A cp w0 S Inv step k o c l dep s w hs
  | d + 1 => fun v l dep s w hAt hb hs hS2 hd => pWalkSA cp w0 S hS Inv hI step k see d (pWalkA cp w0 S hS Inv hI step k see d) v l dep s w hAt hb hs hS2 hd
end Go.Proofs.YtlpnoelolkbmmaaDoor

namespace Go.Proofs.YtlpnoelolkbmmaaDoor
open Go.RowKit Rep
namespace Rep
def goF {σ : Type} (step : σ → Sn → Nat → Option σ) (d : Nat) : List (Fun d) → σ → Option σ
  | [], s => some s
  | f :: r, s => (goI step d f.body 0 s).bind fun s1 => goF step d r s1
theorem goF_end {σ : Type} {step : σ → Sn → Nat → Option σ} {d : Nat} {l : List (Fun d)} {j : Nat} {s : σ} (h : l.length ≤ j) : goF step d (l.drop j) s = some s := by
  rw [List.drop_of_length_le h]; rfl
theorem goF_on {σ : Type} {step : σ → Sn → Nat → Option σ} {d : Nat} {l : List (Fun d)} {j : Nat} {s : σ} {x : Fun d} (hx : l[j]? = some x) :
    goF step d (l.drop j) s = (goI step d x.body 0 s).bind fun s1 => goF step d (l.drop (j + 1)) s1 := by
  have hl : j < l.length := (List.getElem?_eq_some_iff.1 hx).1
  have he : l[j] = x := (List.getElem?_eq_some_iff.1 hx).2
  rw [List.drop_eq_getElem_cons hl, he]
  rfl
def IsSlice (v : Value) : Prop := ∃ o n c, v = .slice o n c
def TenSlices (v0 v1 v3 v4 v5 v6 v7 v8 v9 : Value) : Prop := IsSlice v0 ∧ IsSlice v1 ∧ IsSlice v3 ∧ IsSlice v4 ∧ IsSlice v5 ∧ IsSlice v6 ∧ IsSlice v7 ∧ IsSlice v8 ∧ IsSlice v9
theorem Row.slice {α : Type} {size : Nat} {f : Nat → Nat → α → Prop} {v : Value} {l : List α} (h : Row size f v l) : IsSlice v := let ⟨o, c, e⟩ := Row.len h; ⟨o, l.length, c, e⟩
theorem ModAt.ten {w : World} {d : Nat} {v0 v1 v2 v3 v4 v5 v6 v7 v8 v9 : Value} {m : Mod d} (h : ModAt w d v0 v1 v2 v3 v4 v5 v6 v7 v8 v9 m) : TenSlices v0 v1 v3 v4 v5 v6 v7 v8 v9 :=
  ⟨h.types.slice, h.imports.slice, h.tables.slice, h.mems.slice, h.globals.slice, h.exports.slice, Row.slice h.start, h.elems.slice, h.datas.slice⟩
end Rep
end Go.Proofs.YtlpnoelolkbmmaaDoor

namespace Go.Proofs.YtlpnoelolkbmmaaDoor
open Go.RowKit Rep
set_option linter.unusedVariables false

set_option maxHeartbeats 2000000 in
theorem pWalkMA {σ : Type} (cp : Value) (w0 : World) (S : Nat → Prop) (hS : ∀ k, S k → w0.heap.size ≤ k) (Inv : σ → World → Prop) (hI : ∀ s w w', Below w.heap.size w w' → Inv s w → Inv s w')
    (step : σ → Sn → Nat → Option σ) (k : Int) (see : SeeC 41 (fun x y => #[x, y, cp]) w0 S Inv step k) (d : Nat) (hd : d ≤ 4611686018427387904)
    (v0 v1 v2 v3 v4 v5 v6 v7 v8 v9 : Value) (l : List (Fun d)) (s : σ) (w : World) (hAt : Row 3 (FunAt w0 d) v2 l) (hT : TenSlices v0 v1 v3 v4 v5 v6 v7 v8 v9) (hb : Below w0.heap.size w0 w) (hs : Inv s w) (hS2 : ∀ k, S k → k < w.heap.size) :
    Calls Tryd.prog 26 #[.agg #[v0, v1, v2, v3, v4, v5, v6, v7, v8, v9], .func (.func 41) #[] #[cp]] w fun e w' =>
      Kp S w w' ∧ ((∃ s', goF step d l s = some s' ∧ e = .returned (.tuple #[]) ∧ Inv s' w') ∨ (goF step d l s = none ∧ e = .panicked (gave k))) := by
  have hlen := hAt.1
  obtain ⟨o, cap2, hv⟩ := Row.len hAt
  have hx := Row.some hAt
  subst hv
  obtain ⟨⟨o0, m0, c0, rfl⟩, ⟨o1, m1, c1, rfl⟩, ⟨o3, m3, c3, rfl⟩, ⟨o4, m4, c4, rfl⟩, ⟨o5, m5, c5, rfl⟩, ⟨o6, m6, c6, rfl⟩, ⟨o7, m7, c7, rfl⟩, ⟨o8, m8, c8, rfl⟩, ⟨o9, m9, c9, rfl⟩⟩ := hT
  obtain ⟨R, hR⟩ : ∃ R, R = goF step d l s := ⟨_, rfl⟩
  rw [← hR]
  have HR : Hid (R = goF step d (l.drop 0) s) := hR
  have HX := hideM hx
  clear hx hAt hR
  generalize hn : l.length = n at *
  have HWk := hideM (pWalkA cp w0 S hS Inv hI step k see d)
  have HI := hideM hI
  have HS := hideM hS
  have HS2 := hideM hS2
  have HB := hideM hb
  have Hs := hideM hs
  clear see hI hS hb hs hS2
  go_enter Tryd.func26, Tryd.ntmps26
  go_wp2_with fail
  go_loopw [9] (fun i wr => ∃ (j : Nat) (sj : σ), j ≤ n ∧ i = .int .i64 j ∧ Hid (R = goF step d (l.drop j) sj) ∧ Hid (Kp S w wr) ∧ Hid (Inv sj wr)) (fun i _ => n - (RowKit.intOf i).toNat)
  case atStart => exact ⟨0, s, by omega, rfl, HR, (Kp.refl S w).alloc _, HI.out _ _ _ ((Below.refl _ w).alloc (Nat.le_refl _) _) Hs.out⟩
  case round =>
    obtain ⟨j, sj, hj, rfl, HK, HKP, HSJ⟩ := hrel
    by_cases hgo : j < n
    · obtain ⟨b, off, cap3, hv2, hx⟩ := HX.out (by omega)
      injection hv2 with ho h2 h3
      subst ho
      obtain ⟨x, hxk⟩ : ∃ x, l[j]? = some x := ⟨_, List.getElem?_eq_getElem (by omega)⟩
      have hbr := Kp.below HS.out HB.out HKP.out
      have hx' := (hx j x hxk).on hbr
      have c0 := hx'.type
      obtain ⟨lv, c1, a1⟩ := hx'.locals
      obtain ⟨bv', c2', a2⟩ := (hx j x hxk).body
      have c2 := cell_on hbr c2'
      have HN := hideM (HK.out.trans (goF_on hxk))
      obtain ⟨lo, lc, rfl⟩ := Row.len a1
      obtain ⟨bo, bc, rfl⟩ := At.len d bv' x.body a2
      generalize hnb : size d x.body = nb at *
      generalize hnl : x.locals.length = nl at *
      have A2 := hideM a2
      clear hx' h2 h3 HX a1 a2 hxk hnb hnl hbr hx c2' HK
      go_upto_region 4 with fail
      obtain ⟨wa, hwa⟩ : ∃ wa, wa = wr.alloc (Obj.cells #[.int .i64 x.type, .slice lo nl lc, .slice bo nb bc] 31) := ⟨_, rfl⟩
      rw [← hwa]
      have hsz : wa.heap.size = wr.heap.size + 1 := by rw [hwa]; exact size_alloc _ _
      have n2 : wa.cell? ⟨wr.heap.size, 2, none⟩ = some (.slice bo nb bc) := by rw [hwa]; exact new_cell _ _ _ _ _ rfl
      have hka : Hid (Kp S w wa) := by rw [hwa]; exact HKP.out.alloc _
      have hra : Below wr.heap.size wr wa := by rw [hwa]; exact (Below.refl _ wr).alloc (Nat.le_refl _) _
      have HRA := hideM hra
      clear hwa hra c0 c1 c2
      go_wp2_with fail
      refine (HWk.out _ x.body 0 sj wa A2.out (Kp.below HS.out HB.out hka.out) (HI.out _ _ _ HRA.out HSJ.out) (fun q hq => Nat.lt_of_lt_of_le (HS2.out q hq) hka.out.size) (by omega)).mono ?_
      rintro e u ⟨hk1, hcase⟩
      have hku := hideM (hka.out.trans hk1)
      clear hk1
      rcases hcase with ⟨s1, e1, rfl, i1⟩ | ⟨e1, rfl⟩
      · have HF : Hid (R = goF step d (l.drop (j + 1)) s1) := by
          have := HN.out; rw [e1, Option.bind_some] at this; exact this
        have I1 := hideM i1
        clear i1 e1
        go_wp2
        go_roundw
        case rel => exact ⟨j + 1, s1, by omega, by go_num, HF, hku, I1⟩
        case measure => simp [RowKit.intOf]; omega
      · have HF : R = none := by
          have := HN.out; rw [e1, Option.bind_none] at this; exact this
        go_wp2
        exact ⟨rfl, hku.out, .inr ⟨HF, rfl⟩⟩
    · have HE : R = some sj := HK.out.trans (goF_end (by omega))
      have HEE := hideM HE
      clear HE HK
      go_wp2
      go_end0
      exact ⟨HKP.out, .inl ⟨sj, HEE.out, rfl, HSJ.out⟩⟩
end Go.Proofs.YtlpnoelolkbmmaaDoor
