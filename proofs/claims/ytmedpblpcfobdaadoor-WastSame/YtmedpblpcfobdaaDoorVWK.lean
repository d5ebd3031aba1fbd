/- What each law asks first: a few small inputs that are to be answered. -/
import Derived.Test.YtmedpblpcfobdaaDoorVJPF4
import Derived.Deep.Cut
namespace Go.Proofs.YtmedpblpcfobdaaDoor
open Go.RowKit Rep
set_option linter.unusedVariables false
namespace Rep
def nop : Ins (IL 0) := ⟨1, 0, 0, 0, [], (), ()⟩
def blk : Ins (IL 1) := ⟨2, 0, 0, 0, [], [nop], []⟩
def mOne : Mod 2 := ⟨[⟨[], []⟩], [], [⟨0, [], [blk]⟩], [], [], [], [], [], [], []⟩
def mBad : Mod 0 := ⟨[⟨[1], []⟩], [], [], [], [], [], [], [], [], []⟩
theorem chk_one : chk mOne = 0 := by decide +kernel
theorem chk_bad : chk mBad = 30 := by decide +kernel
theorem cnt_one : cntM 2 mOne.funcs = 2 := by decide +kernel
theorem cell_new (w : World) (cs : Array Value) (t : TypeId) (b i : Nat) (v : Value) (hb : b = w.heap.size) (h : cs[i]? = some v) : (w.alloc (.cells cs t)).cell? ⟨b, i, none⟩ = some v := by
  rw [World.cell?_alloc_at _ t _ _ hb]; exact h
theorem row_nil {α : Type} (k : Nat) (f : Nat → Nat → α → Prop) : Row k f (.slice none 0 0) [] := ⟨by simp, .inl ⟨rfl, none, 0, rfl⟩⟩
theorem row_one {α : Type} (k : Nat) (f : Nat → Nat → α → Prop) (b cap : Nat) (x : α) (h : f b 0 x) : Row k f (.slice (some ⟨b, 0, none⟩) 1 cap) [x] :=
  ⟨by simp, .inr ⟨b, 0, cap, rfl, fun i y hi => by
    match i, hi with
    | 0, hi => simp at hi; subst hi; simpa using h
    | i + 1, hi => simp at hi⟩⟩
theorem new_on (w : World) (o : Obj) : Below w.heap.size w (w.alloc o) := (Below.refl _ w).alloc (Nat.le_refl _) o
theorem insAt_new {α : Type} (w : World) (f : Value → α → Prop) (t : TypeId) (b : Nat) (op a bb n : Int) (v4 v5 v6 : Value) (ls : List Int) (bd el : α) (hb : b = w.heap.size)
    (h4 : Ints (w.alloc (.cells #[.int .i64 op, .int .i64 a, .int .i64 bb, .int .i64 n, v4, v5, v6] t)) v4 ls) (h5 : f v5 bd) (h6 : f v6 el) :
    InsAt (w.alloc (.cells #[.int .i64 op, .int .i64 a, .int .i64 bb, .int .i64 n, v4, v5, v6] t)) f b 0 (⟨op, a, bb, n, ls, bd, el⟩ : Ins α) :=
  ⟨cell_new _ _ _ _ _ _ hb rfl, cell_new _ _ _ _ _ _ hb rfl, cell_new _ _ _ _ _ _ hb rfl, cell_new _ _ _ _ _ _ hb rfl, ⟨_, cell_new _ _ _ _ _ _ hb rfl, h4⟩, ⟨_, cell_new _ _ _ _ _ _ hb rfl, h5⟩, ⟨_, cell_new _ _ _ _ _ _ hb rfl, h6⟩⟩
theorem modOne (w : World) (t0 t1 t2 t3 : TypeId) : ModAt ((((w.alloc (.cells #[.slice none 0 0, .slice none 0 0] t0)).alloc (.cells #[.int .i64 1, .int .i64 0, .int .i64 0, .int .i64 0, .slice none 0 0, .slice none 0 0, .slice none 0 0] t1)).alloc
      (.cells #[.int .i64 2, .int .i64 0, .int .i64 0, .int .i64 0, .slice none 0 0, .slice (some ⟨w.heap.size + 1, 0, none⟩) 1 1, .slice none 0 0] t2)).alloc (.cells #[.int .i64 0, .slice none 0 0, .slice (some ⟨w.heap.size + 1 + 1, 0, none⟩) 1 1] t3))
    2 (.slice (some ⟨w.heap.size, 0, none⟩) 1 1) (.slice none 0 0) (.slice (some ⟨w.heap.size + 1 + 1 + 1, 0, none⟩) 1 1) (.slice none 0 0) (.slice none 0 0) (.slice none 0 0) (.slice none 0 0) (.slice none 0 0) (.slice none 0 0) (.slice none 0 0) mOne := by
  have h1 : FTAt (w.alloc (.cells #[.slice none 0 0, .slice none 0 0] t0)) w.heap.size 0 ⟨[], []⟩ := ⟨⟨_, cell_new _ _ _ _ _ _ rfl rfl, row_nil _ _⟩, ⟨_, cell_new _ _ _ _ _ _ rfl rfl, row_nil _ _⟩⟩
  generalize hw1 : w.alloc (.cells #[.slice none 0 0, .slice none 0 0] t0) = w1 at *
  have s1 : w1.heap.size = w.heap.size + 1 := by rw [← hw1]; exact World.size_alloc _ _
  have h2 := insAt_new w1 (At (w1.alloc (.cells #[.int .i64 1, .int .i64 0, .int .i64 0, .int .i64 0, .slice none 0 0, .slice none 0 0, .slice none 0 0] t1)) 0) t1 (w.heap.size + 1) 1 0 0 0 (.slice none 0 0) (.slice none 0 0) (.slice none 0 0) [] () () s1.symm (row_nil _ _) ⟨none, 0, rfl⟩ ⟨none, 0, rfl⟩
  have h1 := h1.on (new_on w1 (.cells #[.int .i64 1, .int .i64 0, .int .i64 0, .int .i64 0, .slice none 0 0, .slice none 0 0, .slice none 0 0] t1))
  generalize hw2 : w1.alloc (.cells #[.int .i64 1, .int .i64 0, .int .i64 0, .int .i64 0, .slice none 0 0, .slice none 0 0, .slice none 0 0] t1) = w2 at *
  have s2 : w2.heap.size = w.heap.size + 1 + 1 := by rw [← hw2, World.size_alloc, s1]
  have a2 : At w2 1 (.slice (some ⟨w.heap.size + 1, 0, none⟩) 1 1) [nop] := row_one _ _ _ _ _ h2
  have b3 := new_on w2 (.cells #[.int .i64 2, .int .i64 0, .int .i64 0, .int .i64 0, .slice none 0 0, .slice (some ⟨w.heap.size + 1, 0, none⟩) 1 1, .slice none 0 0] t2)
  have h1 := h1.on b3
  have a2 := At.on b3 1 _ _ a2
  have h3 := insAt_new w2 (At (w2.alloc (.cells #[.int .i64 2, .int .i64 0, .int .i64 0, .int .i64 0, .slice none 0 0, .slice (some ⟨w.heap.size + 1, 0, none⟩) 1 1, .slice none 0 0] t2)) 1) t2 (w.heap.size + 1 + 1) 2 0 0 0 (.slice none 0 0) (.slice (some ⟨w.heap.size + 1, 0, none⟩) 1 1) (.slice none 0 0) [] [nop] [] s2.symm (row_nil _ _) a2 (row_nil _ _)
  generalize hw3 : w2.alloc (.cells #[.int .i64 2, .int .i64 0, .int .i64 0, .int .i64 0, .slice none 0 0, .slice (some ⟨w.heap.size + 1, 0, none⟩) 1 1, .slice none 0 0] t2) = w3 at *
  have s3 : w3.heap.size = w.heap.size + 1 + 1 + 1 := by rw [← hw3, World.size_alloc, s2]
  have a3 : At w3 2 (.slice (some ⟨w.heap.size + 1 + 1, 0, none⟩) 1 1) [blk] := row_one _ _ _ _ _ h3
  have b4 := new_on w3 (.cells #[.int .i64 0, .slice none 0 0, .slice (some ⟨w.heap.size + 1 + 1, 0, none⟩) 1 1] t3)
  have h1 := h1.on b4
  have a3 := At.on b4 2 _ _ a3
  have h4 : FunAt (w3.alloc (.cells #[.int .i64 0, .slice none 0 0, .slice (some ⟨w.heap.size + 1 + 1, 0, none⟩) 1 1] t3)) 2 (w.heap.size + 1 + 1 + 1) 0 ⟨0, [], [blk]⟩ :=
    ⟨cell_new _ _ _ _ _ _ s3.symm rfl, ⟨_, cell_new _ _ _ _ _ _ s3.symm rfl, row_nil _ _⟩, ⟨_, cell_new _ _ _ _ _ _ s3.symm rfl, a3⟩⟩
  exact ⟨row_one _ _ _ _ _ h1, row_nil _ _, row_one _ _ _ _ _ h4, row_nil _ _, row_nil _ _, row_nil _ _, row_nil _ _, row_nil _ _, row_nil _ _, row_nil _ _⟩
theorem modBad (w : World) (b : Nat) (t0 t1 : TypeId) (hb : b = w.heap.size) : ModAt ((w.alloc (.cells #[.int .i64 1] t0)).alloc (.cells #[.slice (some ⟨b, 0, none⟩) 1 1, .slice none 0 0] t1))
    0 (.slice (some ⟨b + 1, 0, none⟩) 1 1) (.slice none 0 0) (.slice none 0 0) (.slice none 0 0) (.slice none 0 0) (.slice none 0 0) (.slice none 0 0) (.slice none 0 0) (.slice none 0 0) (.slice none 0 0) mBad := by
  have s1 : (w.alloc (.cells #[.int .i64 1] t0)).heap.size = b + 1 := by rw [World.size_alloc, hb]
  have h0 : Ints (w.alloc (.cells #[.int .i64 1] t0)) (.slice (some ⟨b, 0, none⟩) 1 1) [1] := row_one _ _ _ _ _ (cell_new _ _ _ _ _ _ hb rfl)
  have b1 := new_on (w.alloc (.cells #[.int .i64 1] t0)) (.cells #[.slice (some ⟨b, 0, none⟩) 1 1, .slice none 0 0] t1)
  have h1 : FTAt ((w.alloc (.cells #[.int .i64 1] t0)).alloc (.cells #[.slice (some ⟨b, 0, none⟩) 1 1, .slice none 0 0] t1)) (b + 1) 0 ⟨[1], []⟩ :=
    ⟨⟨_, cell_new _ _ _ _ _ _ s1.symm rfl, h0.on b1⟩, ⟨_, cell_new _ _ _ _ _ _ s1.symm rfl, row_nil _ _⟩⟩
  exact ⟨row_one _ _ _ _ _ h1, row_nil _ _, row_nil _ _, row_nil _ _, row_nil _ _, row_nil _ _, row_nil _ _, row_nil _ _, row_nil _ _, row_nil _ _⟩
theorem okOne : ModOk (.slice none 0 0) (.slice none 0 0) mOne := ⟨by omega, by simp [mOne], ⟨by simp [mOne], by simp [mOne]⟩, by simp, by simp⟩
theorem okBad : ModOk (.slice none 0 0) (.slice none 0 0) mBad := ⟨by omega, by simp [mBad], ⟨by simp [mBad], by simp [mBad]⟩, by simp, by simp⟩
/-- ten cells of a block -/
structure Ten (b : Nat) (v0 v1 v2 v3 v4 v5 v6 v7 v8 v9 : Value) (u : World) : Prop where
  c0 : u.cell? ⟨b, 0, none⟩ = some v0
  c1 : u.cell? ⟨b, 1, none⟩ = some v1
  c2 : u.cell? ⟨b, 2, none⟩ = some v2
  c3 : u.cell? ⟨b, 3, none⟩ = some v3
  c4 : u.cell? ⟨b, 4, none⟩ = some v4
  c5 : u.cell? ⟨b, 5, none⟩ = some v5
  c6 : u.cell? ⟨b, 6, none⟩ = some v6
  c7 : u.cell? ⟨b, 7, none⟩ = some v7
  c8 : u.cell? ⟨b, 8, none⟩ = some v8
  c9 : u.cell? ⟨b, 9, none⟩ = some v9
theorem Ten.on {u u' : World} (hb : Below u.heap.size u u') {b : Nat} {v0 v1 v2 v3 v4 v5 v6 v7 v8 v9 : Value} (h : Ten b v0 v1 v2 v3 v4 v5 v6 v7 v8 v9 u) : Ten b v0 v1 v2 v3 v4 v5 v6 v7 v8 v9 u' :=
  ⟨cell_on hb h.c0, cell_on hb h.c1, cell_on hb h.c2, cell_on hb h.c3, cell_on hb h.c4, cell_on hb h.c5, cell_on hb h.c6, cell_on hb h.c7, cell_on hb h.c8, cell_on hb h.c9⟩
theorem Ten.new (w : World) (t : TypeId) (b : Nat) (v0 v1 v2 v3 v4 v5 v6 v7 v8 v9 : Value) (hb : b = w.heap.size) : Ten b v0 v1 v2 v3 v4 v5 v6 v7 v8 v9 (w.alloc (.cells #[v0, v1, v2, v3, v4, v5, v6, v7, v8, v9] t)) :=
  ⟨cell_new _ _ _ _ _ _ hb rfl, cell_new _ _ _ _ _ _ hb rfl, cell_new _ _ _ _ _ _ hb rfl, cell_new _ _ _ _ _ _ hb rfl, cell_new _ _ _ _ _ _ hb rfl, cell_new _ _ _ _ _ _ hb rfl, cell_new _ _ _ _ _ _ hb rfl, cell_new _ _ _ _ _ _ hb rfl, cell_new _ _ _ _ _ _ hb rfl, cell_new _ _ _ _ _ _ hb rfl⟩
end Rep

set_option maxHeartbeats 1000000 in
theorem pWakes {I : World → Prop} (C : WastC I) (w : World) (hI : I w) :
    Calls Tryd.prog 8 #[] w fun e w' => e = .returned (.bool true) ∧ Below w.heap.size w w' := by
  go_enter Tryd.func8, Tryd.ntmps8
  go_upto_region 2 with fail
  have HM := hideM (modOne w 47 45 45 49)
  obtain ⟨w4, hw4⟩ : ∃ w4, w4 = (((w.alloc (.cells #[.slice none 0 0, .slice none 0 0] 47)).alloc (.cells #[.int .i64 1, .int .i64 0, .int .i64 0, .int .i64 0, .slice none 0 0, .slice none 0 0, .slice none 0 0] 45)).alloc
      (.cells #[.int .i64 2, .int .i64 0, .int .i64 0, .int .i64 0, .slice none 0 0, .slice (some ⟨w.heap.size + 1, 0, none⟩) 1 1, .slice none 0 0] 45)).alloc (.cells #[.int .i64 0, .slice none 0 0, .slice (some ⟨w.heap.size + 1 + 1, 0, none⟩) 1 1] 49) := ⟨_, rfl⟩
  have HB4 : Hid (Below w.heap.size w w4) := hideM (by rw [hw4]; exact below_go (below_go (below_go (new_on _ _) (new_on _ _)) (new_on _ _)) (new_on _ _))
  have HS4 : Hid (w4.heap.size = w.heap.size + 1 + 1 + 1 + 1) := hideM (by rw [hw4]; simp)
  rw [← hw4] at HM ⊢
  clear hw4
  have HT := hideM (Ten.new w4 36 (w.heap.size + 1 + 1 + 1 + 1) (.slice (some ⟨w.heap.size, 0, none⟩) 1 1) (.slice none 0 0) (.slice (some ⟨w.heap.size + 1 + 1 + 1, 0, none⟩) 1 1) (.slice none 0 0) (.slice none 0 0) (.slice none 0 0) (.slice none 0 0) (.slice none 0 0) (.slice none 0 0) (.slice none 0 0) HS4.out.symm)
  have HM5 := hideM (HM.out.on (new_on w4 (.cells #[.slice (some ⟨w.heap.size, 0, none⟩) 1 1, .slice none 0 0, .slice (some ⟨w.heap.size + 1 + 1 + 1, 0, none⟩) 1 1, .slice none 0 0, .slice none 0 0, .slice none 0 0, .slice none 0 0, .slice none 0 0, .slice none 0 0, .slice none 0 0] 36)))
  have HB5 := hideM (below_go HB4.out (new_on w4 (.cells #[.slice (some ⟨w.heap.size, 0, none⟩) 1 1, .slice none 0 0, .slice (some ⟨w.heap.size + 1 + 1 + 1, 0, none⟩) 1 1, .slice none 0 0, .slice none 0 0, .slice none 0 0, .slice none 0 0, .slice none 0 0, .slice none 0 0, .slice none 0 0] 36)))
  obtain ⟨w5, hw5⟩ : ∃ w5, w5 = w4.alloc (.cells #[.slice (some ⟨w.heap.size, 0, none⟩) 1 1, .slice none 0 0, .slice (some ⟨w.heap.size + 1 + 1 + 1, 0, none⟩) 1 1, .slice none 0 0, .slice none 0 0, .slice none 0 0, .slice none 0 0, .slice none 0 0, .slice none 0 0, .slice none 0 0] 36) := ⟨_, rfl⟩
  rw [← hw5] at HT HM5 HB5 ⊢
  clear hw5 HM HB4 HS4
  have HX := hideM (modBad w5 w5.heap.size 3 47 rfl)
  have HU := hideM (new_on w5 (.cells #[.int .i64 1] 3))
  go_upto_region 3 with fail
  obtain ⟨w7, hw7⟩ : ∃ w7, w7 = (w5.alloc (.cells #[.int .i64 1] 3)).alloc (.cells #[.slice (some ⟨w5.heap.size, 0, none⟩) 1 1, .slice none 0 0] 47) := ⟨_, rfl⟩
  rw [← hw7] at HX ⊢
  have HB7 : Hid (Below w5.heap.size w5 w7) := hideM (by rw [hw7]; exact below_go (new_on _ _) (new_on _ _))
  have HS7 : Hid (w7.heap.size = w5.heap.size + 1 + 1) := hideM (by rw [hw7]; simp)
  clear hw7 HU
  have HT2 := hideM (Ten.new w7 36 (w5.heap.size + 1 + 1) (.slice (some ⟨w5.heap.size + 1, 0, none⟩) 1 1) (.slice none 0 0) (.slice none 0 0) (.slice none 0 0) (.slice none 0 0) (.slice none 0 0) (.slice none 0 0) (.slice none 0 0) (.slice none 0 0) (.slice none 0 0) HS7.out.symm)
  have HB8 := hideM (below_go HB7.out (new_on w7 (.cells #[.slice (some ⟨w5.heap.size + 1, 0, none⟩) 1 1, .slice none 0 0, .slice none 0 0, .slice none 0 0, .slice none 0 0, .slice none 0 0, .slice none 0 0, .slice none 0 0, .slice none 0 0, .slice none 0 0] 36)))
  have HX8 := hideM (HX.out.on (new_on w7 (.cells #[.slice (some ⟨w5.heap.size + 1, 0, none⟩) 1 1, .slice none 0 0, .slice none 0 0, .slice none 0 0, .slice none 0 0, .slice none 0 0, .slice none 0 0, .slice none 0 0, .slice none 0 0, .slice none 0 0] 36)))
  obtain ⟨w8, hw8⟩ : ∃ w8, w8 = w7.alloc (.cells #[.slice (some ⟨w5.heap.size + 1, 0, none⟩) 1 1, .slice none 0 0, .slice none 0 0, .slice none 0 0, .slice none 0 0, .slice none 0 0, .slice none 0 0, .slice none 0 0, .slice none 0 0, .slice none 0 0] 36) := ⟨_, rfl⟩
  rw [← hw8] at HT2 HB8 HX8 ⊢
  have HT1 := hideM (HT.out.on HB8.out)
  have HM8 := hideM (HM5.out.on HB8.out)
  have HB := hideM (below_go HB5.out HB8.out)
  have HI := hideM (C.keep HB.out hI)
  clear hw8 HX HB7 HS7 HM5 HB5 HB8 HT hI
  generalize hp : w.heap.size + 1 + 1 + 1 + 1 = p at *
  generalize hq : w5.heap.size + 1 + 1 = q at *
  clear hp hq
  go_wp2_with fail
  refine (C.form _ _ HI.out).mono ?_
  rintro e u1 ⟨rfl, hb⟩
  rw [show form 106 = 1 by decide]
  have HT1 := hideM (HT1.out.on hb)
  have HT2 := hideM (HT2.out.on hb)
  have HM8 := hideM (HM8.out.on hb)
  have HX8 := hideM (HX8.out.on hb)
  have HI := hideM (C.keep hb HI.out)
  have HB := hideM (below_go HB.out hb)
  clear hb
  go_wp2_with fail
  refine (C.form _ _ HI.out).mono ?_
  rintro e u2 ⟨rfl, hb⟩
  rw [show form 146 = 10 by decide]
  have HT1 := hideM (HT1.out.on hb)
  have HT2 := hideM (HT2.out.on hb)
  have HM8 := hideM (HM8.out.on hb)
  have HX8 := hideM (HX8.out.on hb)
  have HI := hideM (C.keep hb HI.out)
  have HB := hideM (below_go HB.out hb)
  clear hb
  obtain ⟨q0, q1, q2, q3, q4, q5, q6, q7, q8, q9⟩ := HT1.out
  go_wp2_with fail
  refine (pCheckC C 2 _ _ _ _ _ _ _ _ _ _ mOne _ HI.out HM8.out okOne).mono ?_
  rintro e u3 ⟨rfl, hb⟩
  rw [chk_one]
  clear q0 q1 q2 q3 q4 q5 q6 q7 q8 q9
  have HT1 := hideM (HT1.out.on hb)
  have HT2 := hideM (HT2.out.on hb)
  have HM8 := hideM (HM8.out.on hb)
  have HX8 := hideM (HX8.out.on hb)
  have HI := hideM (C.keep hb HI.out)
  have HB := hideM (below_go HB.out hb)
  clear hb
  obtain ⟨q0, q1, q2, q3, q4, q5, q6, q7, q8, q9⟩ := HT1.out
  go_wp2_with fail
  refine (pCount 2 (by omega) _ _ _ _ _ _ _ _ _ _ mOne.funcs _ HM8.out.funcs HM8.out.ten).mono ?_
  rintro e u4 ⟨rfl, hb⟩
  rw [cnt_one]
  clear q0 q1 q2 q3 q4 q5 q6 q7 q8 q9
  have HT2 := hideM (HT2.out.on hb)
  have HX8 := hideM (HX8.out.on hb)
  have HI := hideM (C.keep hb HI.out)
  have HB := hideM (below_go HB.out hb)
  clear hb
  obtain ⟨q0, q1, q2, q3, q4, q5, q6, q7, q8, q9⟩ := HT2.out
  go_wp2_with fail
  refine (pCheckC C 0 _ _ _ _ _ _ _ _ _ _ mBad _ HI.out HX8.out okBad).mono ?_
  rintro e u5 ⟨rfl, hb⟩
  rw [chk_bad]
  clear q0 q1 q2 q3 q4 q5 q6 q7 q8 q9
  have HB := hideM (below_go HB.out hb)
  clear hb
  go_wp2
  go_ret
  exact ⟨rfl, HB.out⟩
end Go.Proofs.YtmedpblpcfobdaaDoor
