/- The document's words for sameness: of one instruction, of the lengths of two modules' lists. -/
import Derived.Test.YtmedpblpcfobdaaDoorVK9
namespace Go.Proofs.YtmedpblpcfobdaaDoor
open Go.RowKit Rep
set_option linter.unusedVariables false
namespace Rep
theorem insAt_put {α : Type} (w : World) (f : Value → α → Prop) (t : TypeId) (b : Nat) (x : Ins α) (v4 v5 v6 : Value) (hb : b = w.heap.size)
    (h4 : Ints (w.alloc (.cells #[.int .i64 x.op, .int .i64 x.a, .int .i64 x.b, .int .i64 x.n, v4, v5, v6] t)) v4 x.labels) (h5 : f v5 x.body) (h6 : f v6 x.els) :
    InsAt (w.alloc (.cells #[.int .i64 x.op, .int .i64 x.a, .int .i64 x.b, .int .i64 x.n, v4, v5, v6] t)) f b 0 x := by
  have hc : ∀ (i : Nat) (v : Value), #[Value.int .i64 x.op, .int .i64 x.a, .int .i64 x.b, .int .i64 x.n, v4, v5, v6][i]? = some v → (w.alloc (.cells #[.int .i64 x.op, .int .i64 x.a, .int .i64 x.b, .int .i64 x.n, v4, v5, v6] t)).cell? ⟨b, i, none⟩ = some v := fun i v h => by
    rw [World.cell?_alloc_at _ t _ _ hb]; exact h
  exact ⟨hc _ _ rfl, hc _ _ rfl, hc _ _ rfl, hc _ _ rfl, ⟨_, hc _ _ rfl, h4⟩, ⟨_, hc _ _ rfl, h5⟩, ⟨_, hc _ _ rfl, h6⟩⟩
theorem row_put {α : Type} (k : Nat) (f : Nat → Nat → α → Prop) (b cap : Nat) (x : α) (h : f b 0 x) : Row k f (.slice (some ⟨b, 0, none⟩) 1 cap) [x] :=
  ⟨by simp, .inr ⟨b, 0, cap, rfl, fun i y hi => by
    match i, hi with
    | 0, hi => simp at hi; subst hi; simpa using h
    | i + 1, hi => simp at hi⟩⟩
end Rep
theorem refInstrAt (d : Nat) (x y : Ins (IL d)) (o4 o5 o6 p4 p5 p6 : Option Addr) (n4 n5 n6 m4 m5 m6 c4 c5 c6 e4 e5 e6 : Nat) (w : World) (b1 b2 : Nat) (h1 : b1 = w.heap.size) (h2 : b2 = w.heap.size + 1)
    (a4 : Ints w (.slice o4 n4 c4) x.labels) (a5 : At w d (.slice o5 n5 c5) x.body) (a6 : At w d (.slice o6 n6 c6) x.els) (b4 : Ints w (.slice p4 m4 e4) y.labels) (b5 : At w d (.slice p5 m5 e5) y.body) (b6 : At w d (.slice p6 m6 e6) y.els) :
    Calls Tryd.prog 48 #[.slice (some ⟨b1, 0, none⟩) 1 1, .slice (some ⟨b2, 0, none⟩) 1 1] ((w.alloc (.cells #[.int .i64 x.op, .int .i64 x.a, .int .i64 x.b, .int .i64 x.n, .slice o4 n4 c4, .slice o5 n5 c5, .slice o6 n6 c6] 45)).alloc (.cells #[.int .i64 y.op, .int .i64 y.a, .int .i64 y.b, .int .i64 y.n, .slice p4 m4 e4, .slice p5 m5 e5, .slice p6 m6 e6] 45)) fun e w' => e = .returned (.bool (sam1 (samI d) x y)) ∧ Below w.heap.size w w' := by
  have hb1 := new_on' w (.cells #[.int .i64 x.op, .int .i64 x.a, .int .i64 x.b, .int .i64 x.n, .slice o4 n4 c4, .slice o5 n5 c5, .slice o6 n6 c6] 45)
  have i1 := insAt_put w (At (w.alloc (.cells #[.int .i64 x.op, .int .i64 x.a, .int .i64 x.b, .int .i64 x.n, .slice o4 n4 c4, .slice o5 n5 c5, .slice o6 n6 c6] 45)) d) 45 b1 x _ _ _ h1 (a4.on hb1) (At.on hb1 _ _ _ a5) (At.on hb1 _ _ _ a6)
  have b4 := b4.on hb1
  have b5 := At.on hb1 _ _ _ b5
  have b6 := At.on hb1 _ _ _ b6
  have hs : (w.alloc (.cells #[.int .i64 x.op, .int .i64 x.a, .int .i64 x.b, .int .i64 x.n, .slice o4 n4 c4, .slice o5 n5 c5, .slice o6 n6 c6] 45)).heap.size = w.heap.size + 1 := by simp
  generalize w.alloc (.cells #[.int .i64 x.op, .int .i64 x.a, .int .i64 x.b, .int .i64 x.n, .slice o4 n4 c4, .slice o5 n5 c5, .slice o6 n6 c6] 45) = w1 at *
  have hb2 := new_on' w1 (.cells #[.int .i64 y.op, .int .i64 y.a, .int .i64 y.b, .int .i64 y.n, .slice p4 m4 e4, .slice p5 m5 e5, .slice p6 m6 e6] 45)
  have i2 := insAt_put w1 (At (w1.alloc (.cells #[.int .i64 y.op, .int .i64 y.a, .int .i64 y.b, .int .i64 y.n, .slice p4 m4 e4, .slice p5 m5 e5, .slice p6 m6 e6] 45)) d) 45 b2 y _ _ _ (by rw [h2, hs]) (b4.on hb2) (At.on hb2 _ _ _ b5) (At.on hb2 _ _ _ b6)
  have i1 := i1.on hb2 (At.on hb2 d)
  have hE : samI (d + 1) ([x] : List (Ins (IL d))) ([y] : List (Ins (IL d))) = sam1 (samI d) x y := by
    show (sam1 (samI d) x y && true) = _
    rw [Bool.and_true]
  rw [← hE]
  exact (refInstrs (d + 1) (.slice (some ⟨b1, 0, none⟩) 1 1) (.slice (some ⟨b2, 0, none⟩) 1 1) ([x] : List (Ins (IL d))) ([y] : List (Ins (IL d))) _ (row_put _ _ _ _ _ i1) (row_put _ _ _ _ _ i2)).mono fun e w' ⟨h1, h2⟩ => ⟨h1, below_go' (below_go' hb1 hb2) h2⟩
set_option maxHeartbeats 1000000 in
theorem refInstr (d : Nat) (x y : Ins (IL d)) (o4 o5 o6 p4 p5 p6 : Option Addr) (n4 n5 n6 m4 m5 m6 c4 c5 c6 e4 e5 e6 : Nat) (w : World)
    (a4 : Ints w (.slice o4 n4 c4) x.labels) (a5 : At w d (.slice o5 n5 c5) x.body) (a6 : At w d (.slice o6 n6 c6) x.els) (b4 : Ints w (.slice p4 m4 e4) y.labels) (b5 : At w d (.slice p5 m5 e5) y.body) (b6 : At w d (.slice p6 m6 e6) y.els) :
    Calls Tryd.prog 49 #[.agg #[.int .i64 x.op, .int .i64 x.a, .int .i64 x.b, .int .i64 x.n, .slice o4 n4 c4, .slice o5 n5 c5, .slice o6 n6 c6], .agg #[.int .i64 y.op, .int .i64 y.a, .int .i64 y.b, .int .i64 y.n, .slice p4 m4 e4, .slice p5 m5 e5, .slice p6 m6 e6]] w fun e w' => e = .returned (.bool (sam1 (samI d) x y)) ∧ Below w.heap.size w w' := by
  have HC := hideR (fun (w' : World) (hb : Below w.heap.size w w') (b1 b2 : Nat) (h1 : b1 = w'.heap.size) (h2 : b2 = w'.heap.size + 1) => refInstrAt d x y o4 o5 o6 p4 p5 p6 n4 n5 n6 m4 m5 m6 c4 c5 c6 e4 e5 e6 w' b1 b2 h1 h2 (a4.on hb) (At.on hb _ _ _ a5) (At.on hb _ _ _ a6) (b4.on hb) (At.on hb _ _ _ b5) (At.on hb _ _ _ b6))
  have HB := hideR (below_go' (new_on' w (.cells #[.int .i64 x.op, .int .i64 x.a, .int .i64 x.b, .int .i64 x.n, .slice o4 n4 c4, .slice o5 n5 c5, .slice o6 n6 c6] 45)) (new_on' (w.alloc (.cells #[.int .i64 x.op, .int .i64 x.a, .int .i64 x.b, .int .i64 x.n, .slice o4 n4 c4, .slice o5 n5 c5, .slice o6 n6 c6] 45)) (.cells #[.int .i64 y.op, .int .i64 y.a, .int .i64 y.b, .int .i64 y.n, .slice p4 m4 e4, .slice p5 m5 e5, .slice p6 m6 e6] 45)))
  obtain ⟨R, hR⟩ : ∃ R, R = sam1 (samI d) x y := ⟨_, rfl⟩
  rw [← hR] at HC ⊢
  clear hR a4 a5 a6 b4 b5 b6
  go_enter Tryd.func49, Tryd.ntmps49
  go_wp2_with fail
  refine (HC.out _ HB.out _ _ (by simp) (by simp)).mono ?_
  rintro e u ⟨rfl, hb⟩
  have HB2 := hideR (below_go' HB.out hb)
  clear hb
  go_wp2
  go_ret
  exact ⟨rfl, HB2.out⟩
end Go.Proofs.YtmedpblpcfobdaaDoor
