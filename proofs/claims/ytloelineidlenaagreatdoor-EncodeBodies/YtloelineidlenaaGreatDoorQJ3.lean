/- QJ3: several texts in one. -/
import Derived.Test.YtloelineidlenaaGreatDoorQJ2
import Derived.Test.YtloelineidlenaaGreatDoorW8
import Derived.Test.YtloelineidlenaaGreatDoorUR
import Derived.Test.YtloelineidlenaaGreatDoorCount
import Derived.Test.YtloelineidlenaaGreatDoorQJ1
import Derived.Test.YtloelineidlenaaGreatDoorRep
import Derived.Test.YtloelineidlenaaGreatDoorK4
import Derived.Test.YtloelineidlenaaGreatDoorQJ0
import Derived.Test.YtloelineidlenaaGreatDoorK3
import Derived.Test.YtloelineidlenaaGreatDoorK12
import Derived.Test.YtloelineidlenaaGreatDoorRows
import Derived.Lib.LaidIn
import Derived.Lib.LaidU8T
import Derived.ProofKit
namespace Go.Proofs.YtloelineidlenaaGreatDoor
open Go.RowKit Rep
set_option linter.unusedVariables false

theorem bare_not {a b n : Int} {nl nb ne : Nat} (h : ¬ (a = 0 ∧ b = 0 ∧ n = 0 ∧ nl = 0 ∧ nb = 0 ∧ ne = 0)) : bare a b n nl nb ne = false := decide_eq_false h
theorem bare_yes : bare 0 0 0 0 0 0 = true := by decide
theorem idx0 : idx 0 = true := by decide

def N9 (op f : Int) : Prop := f = 9 → op = 65 ∨ op = 66
theorem n9_ite {op : Int} {p : Prop} [Decidable p] {x y : Int} (hx : p → N9 op x) (hy : ¬ p → N9 op y) : N9 op (if p then x else y) := by
  split
  · next h => exact hx h
  · next h => exact hy h
theorem form_nine (op : Int) (h : form op = 9) : op = 65 ∨ op = 66 := by
  have : N9 op (form op) := by
    unfold form
    repeat (refine n9_ite (fun hp => by intro hh; first | omega | (exfalso; revert hh; decide)) (fun hn => ?_))
    intro hh; exact absurd hh (by decide)
  exact this h

theorem refOneF0 (op a b n : Int) (ls : List Int) (lo bo eo : Option Addr) (nb ne lc bc ec : Nat) (w : World) (h : form op = 0) (hl : Ints w (.slice lo ls.length lc) ls) :
    Calls Tryz.prog 123 #[.agg #[.int .i64 op, .int .i64 a, .int .i64 b, .int .i64 n, .slice lo ls.length lc, .slice bo nb bc, .slice eo ne ec]] w fun e w' => e = .returned (.bool (okF 0 op a b n ls nb ne)) ∧ Below w.heap.size w w' := by
  exact refOne0 op a b n ls lo bo eo ls.length nb ne lc bc ec w h hl rfl

theorem refOneF1 (op a b n : Int) (ls : List Int) (lo bo eo : Option Addr) (nb ne lc bc ec : Nat) (w : World) (h : form op = 1) (hl : Ints w (.slice lo ls.length lc) ls) :
    Calls Tryz.prog 123 #[.agg #[.int .i64 op, .int .i64 a, .int .i64 b, .int .i64 n, .slice lo ls.length lc, .slice bo nb bc, .slice eo ne ec]] w fun e w' => e = .returned (.bool (okF 1 op a b n ls nb ne)) ∧ Below w.heap.size w w' := by
  by_cases g0 : a = 0
  rotate_left
  · have e : okF 1 op a b n ls nb ne = false := by
      show bare a b n ls.length nb ne = false
      rw [bare_not (by intro hh; exact g0 (by omega))]; first | done | rfl | simp
    rw [e]
    exact refOne1xa op a b n ls lo bo eo ls.length nb ne lc bc ec w h hl rfl  (by simp [g0])
  by_cases g1 : b = 0
  rotate_left
  · have e : okF 1 op a b n ls nb ne = false := by
      show bare a b n ls.length nb ne = false
      rw [bare_not (by intro hh; exact g1 (by omega))]; first | done | rfl | simp
    rw [e]
    exact refOne1xb op a b n ls lo bo eo ls.length nb ne lc bc ec w h hl rfl (by simp [g0]) (by simp [g1])
  by_cases g2 : n = 0
  rotate_left
  · have e : okF 1 op a b n ls nb ne = false := by
      show bare a b n ls.length nb ne = false
      rw [bare_not (by intro hh; exact g2 (by omega))]; first | done | rfl | simp
    rw [e]
    exact refOne1xn op a b n ls lo bo eo ls.length nb ne lc bc ec w h hl rfl (by simp [g0]) (by simp [g1]) (by simp [g2])
  by_cases g3 : ls.length = 0
  rotate_left
  · have e : okF 1 op a b n ls nb ne = false := by
      show bare a b n ls.length nb ne = false
      rw [bare_not (by intro hh; exact g3 (by omega))]; first | done | rfl | simp
    rw [e]
    exact refOne1xlabels op a b n ls lo bo eo ls.length nb ne lc bc ec w h hl rfl (by simp [g0]) (by simp [g1]) (by simp [g2]) (by omega)
  by_cases g4 : nb = 0
  rotate_left
  · have e : okF 1 op a b n ls nb ne = false := by
      show bare a b n ls.length nb ne = false
      rw [bare_not (by intro hh; exact g4 (by omega))]; first | done | rfl | simp
    rw [e]
    exact refOne1xbody op a b n ls lo bo eo ls.length nb ne lc bc ec w h hl rfl (by simp [g0]) (by simp [g1]) (by simp [g2]) g3 (by omega)
  by_cases g5 : ne = 0
  rotate_left
  · have e : okF 1 op a b n ls nb ne = false := by
      show bare a b n ls.length nb ne = false
      rw [bare_not (by intro hh; exact g5 (by omega))]; first | done | rfl | simp
    rw [e]
    exact refOne1xels op a b n ls lo bo eo ls.length nb ne lc bc ec w h hl rfl (by simp [g0]) (by simp [g1]) (by simp [g2]) g3 g4 (by omega)
  have eb : bare a b n ls.length nb ne = true := decide_eq_true (by omega)
  have ia : idx a = true := by rw [show a = 0 by omega]; exact idx0
  have ib : idx b = true := by rw [show b = 0 by omega]; exact idx0
  have il : ls.all idx = true := by rw [List.length_eq_zero_iff.1 (by omega : ls.length = 0)]; rfl
  have hne := form_const op (by rw [h]; decide)
  have e : okF 1 op a b n ls nb ne = (idx a && (idx b && ls.all idx)) := by
    show bare a b n ls.length nb ne = _
    rw [eb, ia, ib, il]; first | done | rfl | simp | simp [Bool.and_assoc]
  rw [e]
  exact refOne1e op a b n ls lo bo eo ls.length nb ne lc bc ec w h hl rfl (by simp [g0]) (by simp [g1]) (by simp [g2]) g3 g4 g5 hne.1

theorem refOneF2 (op a b n : Int) (ls : List Int) (lo bo eo : Option Addr) (nb ne lc bc ec : Nat) (w : World) (h : form op = 2) (hl : Ints w (.slice lo ls.length lc) ls) :
    Calls Tryz.prog 123 #[.agg #[.int .i64 op, .int .i64 a, .int .i64 b, .int .i64 n, .slice lo ls.length lc, .slice bo nb bc, .slice eo ne ec]] w fun e w' => e = .returned (.bool (okF 2 op a b n ls nb ne)) ∧ Below w.heap.size w w' := by
  by_cases g0 : b = 0
  rotate_left
  · have e : okF 2 op a b n ls nb ne = false := by
      show (res a && bare 0 b n ls.length 0 ne) = false
      rw [bare_not (by intro hh; exact g0 (by omega))]; first | done | rfl | simp
    rw [e]
    exact refOne2xb op a b n ls lo bo eo ls.length nb ne lc bc ec w h hl rfl  (by simp [g0])
  by_cases g1 : n = 0
  rotate_left
  · have e : okF 2 op a b n ls nb ne = false := by
      show (res a && bare 0 b n ls.length 0 ne) = false
      rw [bare_not (by intro hh; exact g1 (by omega))]; first | done | rfl | simp
    rw [e]
    exact refOne2xn op a b n ls lo bo eo ls.length nb ne lc bc ec w h hl rfl (by simp [g0]) (by simp [g1])
  by_cases g2 : ls.length = 0
  rotate_left
  · have e : okF 2 op a b n ls nb ne = false := by
      show (res a && bare 0 b n ls.length 0 ne) = false
      rw [bare_not (by intro hh; exact g2 (by omega))]; first | done | rfl | simp
    rw [e]
    exact refOne2xlabels op a b n ls lo bo eo ls.length nb ne lc bc ec w h hl rfl (by simp [g0]) (by simp [g1]) (by omega)
  by_cases g3 : ne = 0
  rotate_left
  · have e : okF 2 op a b n ls nb ne = false := by
      show (res a && bare 0 b n ls.length 0 ne) = false
      rw [bare_not (by intro hh; exact g3 (by omega))]; first | done | rfl | simp
    rw [e]
    exact refOne2xels op a b n ls lo bo eo ls.length nb ne lc bc ec w h hl rfl (by simp [g0]) (by simp [g1]) g2 (by omega)
  have eb : bare 0 b n ls.length 0 ne = true := decide_eq_true (by omega)
  have e : okF 2 op a b n ls nb ne = res a := by
    show (res a && bare 0 b n ls.length 0 ne) = res a
    rw [eb, Bool.and_true]
  rw [e]
  by_cases e1 : a = 0
  · have er : res a = true := by simp [res, e1]
    rw [er]
    exact refOne2z op a b n ls lo bo eo ls.length nb ne lc bc ec w h hl rfl (by simp [g0]) (by simp [g1]) g2 g3 (by simp [e1])
  · by_cases e2 : a = 126
    · have er : res a = true := by simp [res, typ, e2]
      rw [er]
      exact refOne2y op a b n ls lo bo eo ls.length nb ne lc bc ec w h hl rfl (by simp [g0]) (by simp [g1]) g2 g3 (by simp [e1]) (by simp [e2])
    · have er : res a = (a == 127) := by
        rw [Bool.eq_iff_iff]; simp [res, typ, e1, e2]
      rw [er]
      exact refOne2w op a b n ls lo bo eo ls.length nb ne lc bc ec w h hl rfl (by simp [g0]) (by simp [g1]) g2 g3 (by simp [e1]) (by simp [e2])

theorem refOneF3 (op a b n : Int) (ls : List Int) (lo bo eo : Option Addr) (nb ne lc bc ec : Nat) (w : World) (h : form op = 3) (hl : Ints w (.slice lo ls.length lc) ls) :
    Calls Tryz.prog 123 #[.agg #[.int .i64 op, .int .i64 a, .int .i64 b, .int .i64 n, .slice lo ls.length lc, .slice bo nb bc, .slice eo ne ec]] w fun e w' => e = .returned (.bool (okF 3 op a b n ls nb ne)) ∧ Below w.heap.size w w' := by
  by_cases g0 : b = 0
  rotate_left
  · have e : okF 3 op a b n ls nb ne = false := by
      show (res a && bare 0 b n ls.length 0 0) = false
      rw [bare_not (by intro hh; exact g0 (by omega))]; first | done | rfl | simp
    rw [e]
    exact refOne3xb op a b n ls lo bo eo ls.length nb ne lc bc ec w h hl rfl  (by simp [g0])
  by_cases g1 : n = 0
  rotate_left
  · have e : okF 3 op a b n ls nb ne = false := by
      show (res a && bare 0 b n ls.length 0 0) = false
      rw [bare_not (by intro hh; exact g1 (by omega))]; first | done | rfl | simp
    rw [e]
    exact refOne3xn op a b n ls lo bo eo ls.length nb ne lc bc ec w h hl rfl (by simp [g0]) (by simp [g1])
  by_cases g2 : ls.length = 0
  rotate_left
  · have e : okF 3 op a b n ls nb ne = false := by
      show (res a && bare 0 b n ls.length 0 0) = false
      rw [bare_not (by intro hh; exact g2 (by omega))]; first | done | rfl | simp
    rw [e]
    exact refOne3xlabels op a b n ls lo bo eo ls.length nb ne lc bc ec w h hl rfl (by simp [g0]) (by simp [g1]) (by omega)
  have eb : bare 0 b n ls.length 0 0 = true := decide_eq_true (by omega)
  have e : okF 3 op a b n ls nb ne = res a := by
    show (res a && bare 0 b n ls.length 0 0) = res a
    rw [eb, Bool.and_true]
  rw [e]
  by_cases e1 : a = 0
  · have er : res a = true := by simp [res, e1]
    rw [er]
    exact refOne3z op a b n ls lo bo eo ls.length nb ne lc bc ec w h hl rfl (by simp [g0]) (by simp [g1]) g2 (by simp [e1])
  · by_cases e2 : a = 126
    · have er : res a = true := by simp [res, typ, e2]
      rw [er]
      exact refOne3y op a b n ls lo bo eo ls.length nb ne lc bc ec w h hl rfl (by simp [g0]) (by simp [g1]) g2 (by simp [e1]) (by simp [e2])
    · have er : res a = (a == 127) := by
        rw [Bool.eq_iff_iff]; simp [res, typ, e1, e2]
      rw [er]
      exact refOne3w op a b n ls lo bo eo ls.length nb ne lc bc ec w h hl rfl (by simp [g0]) (by simp [g1]) g2 (by simp [e1]) (by simp [e2])

theorem refOneF4 (op a b n : Int) (ls : List Int) (lo bo eo : Option Addr) (nb ne lc bc ec : Nat) (w : World) (h : form op = 4) (hl : Ints w (.slice lo ls.length lc) ls) :
    Calls Tryz.prog 123 #[.agg #[.int .i64 op, .int .i64 a, .int .i64 b, .int .i64 n, .slice lo ls.length lc, .slice bo nb bc, .slice eo ne ec]] w fun e w' => e = .returned (.bool (okF 4 op a b n ls nb ne)) ∧ Below w.heap.size w w' := by
  by_cases g0 : b = 0
  rotate_left
  · have e : okF 4 op a b n ls nb ne = false := by
      show (idx a && bare 0 b n ls.length nb ne) = false
      rw [bare_not (by intro hh; exact g0 (by omega))]; first | done | rfl | simp
    rw [e]
    exact refOne4xb op a b n ls lo bo eo ls.length nb ne lc bc ec w h hl rfl  (by simp [g0])
  by_cases g1 : n = 0
  rotate_left
  · have e : okF 4 op a b n ls nb ne = false := by
      show (idx a && bare 0 b n ls.length nb ne) = false
      rw [bare_not (by intro hh; exact g1 (by omega))]; first | done | rfl | simp
    rw [e]
    exact refOne4xn op a b n ls lo bo eo ls.length nb ne lc bc ec w h hl rfl (by simp [g0]) (by simp [g1])
  by_cases g2 : ls.length = 0
  rotate_left
  · have e : okF 4 op a b n ls nb ne = false := by
      show (idx a && bare 0 b n ls.length nb ne) = false
      rw [bare_not (by intro hh; exact g2 (by omega))]; first | done | rfl | simp
    rw [e]
    exact refOne4xlabels op a b n ls lo bo eo ls.length nb ne lc bc ec w h hl rfl (by simp [g0]) (by simp [g1]) (by omega)
  by_cases g3 : nb = 0
  rotate_left
  · have e : okF 4 op a b n ls nb ne = false := by
      show (idx a && bare 0 b n ls.length nb ne) = false
      rw [bare_not (by intro hh; exact g3 (by omega))]; first | done | rfl | simp
    rw [e]
    exact refOne4xbody op a b n ls lo bo eo ls.length nb ne lc bc ec w h hl rfl (by simp [g0]) (by simp [g1]) g2 (by omega)
  by_cases g4 : ne = 0
  rotate_left
  · have e : okF 4 op a b n ls nb ne = false := by
      show (idx a && bare 0 b n ls.length nb ne) = false
      rw [bare_not (by intro hh; exact g4 (by omega))]; first | done | rfl | simp
    rw [e]
    exact refOne4xels op a b n ls lo bo eo ls.length nb ne lc bc ec w h hl rfl (by simp [g0]) (by simp [g1]) g2 g3 (by omega)
  have eb : bare 0 b n ls.length nb ne = true := decide_eq_true (by omega)
  have ib : idx b = true := by rw [show b = 0 by omega]; exact idx0
  have il : ls.all idx = true := by rw [List.length_eq_zero_iff.1 (by omega : ls.length = 0)]; rfl
  have hne := form_const op (by rw [h]; decide)
  have e : okF 4 op a b n ls nb ne = (idx a && (idx b && ls.all idx)) := by
    show (idx a && bare 0 b n ls.length nb ne) = _
    rw [eb, ib, il]; first | done | rfl | simp | simp [Bool.and_assoc]
  rw [e]
  exact refOne4e op a b n ls lo bo eo ls.length nb ne lc bc ec w h hl rfl (by simp [g0]) (by simp [g1]) g2 g3 g4 hne.1

theorem refOneF5 (op a b n : Int) (ls : List Int) (lo bo eo : Option Addr) (nb ne lc bc ec : Nat) (w : World) (h : form op = 5) (hl : Ints w (.slice lo ls.length lc) ls) :
    Calls Tryz.prog 123 #[.agg #[.int .i64 op, .int .i64 a, .int .i64 b, .int .i64 n, .slice lo ls.length lc, .slice bo nb bc, .slice eo ne ec]] w fun e w' => e = .returned (.bool (okF 5 op a b n ls nb ne)) ∧ Below w.heap.size w w' := by
  by_cases g0 : b = 0
  rotate_left
  · have e : okF 5 op a b n ls nb ne = false := by
      show (idx a && ls.all idx && bare 0 b n 0 nb ne) = false
      rw [bare_not (by intro hh; exact g0 (by omega))]; first | done | rfl | simp
    rw [e]
    exact refOne5xb op a b n ls lo bo eo ls.length nb ne lc bc ec w h hl rfl  (by simp [g0])
  by_cases g1 : n = 0
  rotate_left
  · have e : okF 5 op a b n ls nb ne = false := by
      show (idx a && ls.all idx && bare 0 b n 0 nb ne) = false
      rw [bare_not (by intro hh; exact g1 (by omega))]; first | done | rfl | simp
    rw [e]
    exact refOne5xn op a b n ls lo bo eo ls.length nb ne lc bc ec w h hl rfl (by simp [g0]) (by simp [g1])
  by_cases g2 : nb = 0
  rotate_left
  · have e : okF 5 op a b n ls nb ne = false := by
      show (idx a && ls.all idx && bare 0 b n 0 nb ne) = false
      rw [bare_not (by intro hh; exact g2 (by omega))]; first | done | rfl | simp
    rw [e]
    exact refOne5xbody op a b n ls lo bo eo ls.length nb ne lc bc ec w h hl rfl (by simp [g0]) (by simp [g1]) (by omega)
  by_cases g3 : ne = 0
  rotate_left
  · have e : okF 5 op a b n ls nb ne = false := by
      show (idx a && ls.all idx && bare 0 b n 0 nb ne) = false
      rw [bare_not (by intro hh; exact g3 (by omega))]; first | done | rfl | simp
    rw [e]
    exact refOne5xels op a b n ls lo bo eo ls.length nb ne lc bc ec w h hl rfl (by simp [g0]) (by simp [g1]) g2 (by omega)
  have eb : bare 0 b n 0 nb ne = true := decide_eq_true (by omega)
  have ib : idx b = true := by rw [show b = 0 by omega]; exact idx0
  have hne := form_const op (by rw [h]; decide)
  have e : okF 5 op a b n ls nb ne = (idx a && (idx b && ls.all idx)) := by
    show (idx a && ls.all idx && bare 0 b n 0 nb ne) = _
    rw [eb, ib]; first | done | rfl | simp | simp [Bool.and_assoc]
  rw [e]
  exact refOne5e op a b n ls lo bo eo ls.length nb ne lc bc ec w h hl rfl (by simp [g0]) (by simp [g1]) g2 g3 hne.1

theorem refOneF6 (op a b n : Int) (ls : List Int) (lo bo eo : Option Addr) (nb ne lc bc ec : Nat) (w : World) (h : form op = 6) (hl : Ints w (.slice lo ls.length lc) ls) :
    Calls Tryz.prog 123 #[.agg #[.int .i64 op, .int .i64 a, .int .i64 b, .int .i64 n, .slice lo ls.length lc, .slice bo nb bc, .slice eo ne ec]] w fun e w' => e = .returned (.bool (okF 6 op a b n ls nb ne)) ∧ Below w.heap.size w w' := by
  by_cases g0 : b = 0
  rotate_left
  · have e : okF 6 op a b n ls nb ne = false := by
      show (idx a && bare 0 b n ls.length nb ne) = false
      rw [bare_not (by intro hh; exact g0 (by omega))]; first | done | rfl | simp
    rw [e]
    exact refOne6xb op a b n ls lo bo eo ls.length nb ne lc bc ec w h hl rfl  (by simp [g0])
  by_cases g1 : n = 0
  rotate_left
  · have e : okF 6 op a b n ls nb ne = false := by
      show (idx a && bare 0 b n ls.length nb ne) = false
      rw [bare_not (by intro hh; exact g1 (by omega))]; first | done | rfl | simp
    rw [e]
    exact refOne6xn op a b n ls lo bo eo ls.length nb ne lc bc ec w h hl rfl (by simp [g0]) (by simp [g1])
  by_cases g2 : ls.length = 0
  rotate_left
  · have e : okF 6 op a b n ls nb ne = false := by
      show (idx a && bare 0 b n ls.length nb ne) = false
      rw [bare_not (by intro hh; exact g2 (by omega))]; first | done | rfl | simp
    rw [e]
    exact refOne6xlabels op a b n ls lo bo eo ls.length nb ne lc bc ec w h hl rfl (by simp [g0]) (by simp [g1]) (by omega)
  by_cases g3 : nb = 0
  rotate_left
  · have e : okF 6 op a b n ls nb ne = false := by
      show (idx a && bare 0 b n ls.length nb ne) = false
      rw [bare_not (by intro hh; exact g3 (by omega))]; first | done | rfl | simp
    rw [e]
    exact refOne6xbody op a b n ls lo bo eo ls.length nb ne lc bc ec w h hl rfl (by simp [g0]) (by simp [g1]) g2 (by omega)
  by_cases g4 : ne = 0
  rotate_left
  · have e : okF 6 op a b n ls nb ne = false := by
      show (idx a && bare 0 b n ls.length nb ne) = false
      rw [bare_not (by intro hh; exact g4 (by omega))]; first | done | rfl | simp
    rw [e]
    exact refOne6xels op a b n ls lo bo eo ls.length nb ne lc bc ec w h hl rfl (by simp [g0]) (by simp [g1]) g2 g3 (by omega)
  have eb : bare 0 b n ls.length nb ne = true := decide_eq_true (by omega)
  have ib : idx b = true := by rw [show b = 0 by omega]; exact idx0
  have il : ls.all idx = true := by rw [List.length_eq_zero_iff.1 (by omega : ls.length = 0)]; rfl
  have hne := form_const op (by rw [h]; decide)
  have e : okF 6 op a b n ls nb ne = (idx a && (idx b && ls.all idx)) := by
    show (idx a && bare 0 b n ls.length nb ne) = _
    rw [eb, ib, il]; first | done | rfl | simp | simp [Bool.and_assoc]
  rw [e]
  exact refOne6e op a b n ls lo bo eo ls.length nb ne lc bc ec w h hl rfl (by simp [g0]) (by simp [g1]) g2 g3 g4 hne.1

theorem refOneF7 (op a b n : Int) (ls : List Int) (lo bo eo : Option Addr) (nb ne lc bc ec : Nat) (w : World) (h : form op = 7) (hl : Ints w (.slice lo ls.length lc) ls) :
    Calls Tryz.prog 123 #[.agg #[.int .i64 op, .int .i64 a, .int .i64 b, .int .i64 n, .slice lo ls.length lc, .slice bo nb bc, .slice eo ne ec]] w fun e w' => e = .returned (.bool (okF 7 op a b n ls nb ne)) ∧ Below w.heap.size w w' := by
  by_cases g0 : b = 0
  rotate_left
  · have e : okF 7 op a b n ls nb ne = false := by
      show (idx a && bare 0 b n ls.length nb ne) = false
      rw [bare_not (by intro hh; exact g0 (by omega))]; first | done | rfl | simp
    rw [e]
    exact refOne7xb op a b n ls lo bo eo ls.length nb ne lc bc ec w h hl rfl  (by simp [g0])
  by_cases g1 : n = 0
  rotate_left
  · have e : okF 7 op a b n ls nb ne = false := by
      show (idx a && bare 0 b n ls.length nb ne) = false
      rw [bare_not (by intro hh; exact g1 (by omega))]; first | done | rfl | simp
    rw [e]
    exact refOne7xn op a b n ls lo bo eo ls.length nb ne lc bc ec w h hl rfl (by simp [g0]) (by simp [g1])
  by_cases g2 : ls.length = 0
  rotate_left
  · have e : okF 7 op a b n ls nb ne = false := by
      show (idx a && bare 0 b n ls.length nb ne) = false
      rw [bare_not (by intro hh; exact g2 (by omega))]; first | done | rfl | simp
    rw [e]
    exact refOne7xlabels op a b n ls lo bo eo ls.length nb ne lc bc ec w h hl rfl (by simp [g0]) (by simp [g1]) (by omega)
  by_cases g3 : nb = 0
  rotate_left
  · have e : okF 7 op a b n ls nb ne = false := by
      show (idx a && bare 0 b n ls.length nb ne) = false
      rw [bare_not (by intro hh; exact g3 (by omega))]; first | done | rfl | simp
    rw [e]
    exact refOne7xbody op a b n ls lo bo eo ls.length nb ne lc bc ec w h hl rfl (by simp [g0]) (by simp [g1]) g2 (by omega)
  by_cases g4 : ne = 0
  rotate_left
  · have e : okF 7 op a b n ls nb ne = false := by
      show (idx a && bare 0 b n ls.length nb ne) = false
      rw [bare_not (by intro hh; exact g4 (by omega))]; first | done | rfl | simp
    rw [e]
    exact refOne7xels op a b n ls lo bo eo ls.length nb ne lc bc ec w h hl rfl (by simp [g0]) (by simp [g1]) g2 g3 (by omega)
  have eb : bare 0 b n ls.length nb ne = true := decide_eq_true (by omega)
  have ib : idx b = true := by rw [show b = 0 by omega]; exact idx0
  have il : ls.all idx = true := by rw [List.length_eq_zero_iff.1 (by omega : ls.length = 0)]; rfl
  have hne := form_const op (by rw [h]; decide)
  have e : okF 7 op a b n ls nb ne = (idx a && (idx b && ls.all idx)) := by
    show (idx a && bare 0 b n ls.length nb ne) = _
    rw [eb, ib, il]; first | done | rfl | simp | simp [Bool.and_assoc]
  rw [e]
  exact refOne7e op a b n ls lo bo eo ls.length nb ne lc bc ec w h hl rfl (by simp [g0]) (by simp [g1]) g2 g3 g4 hne.1

theorem refOneF8 (op a b n : Int) (ls : List Int) (lo bo eo : Option Addr) (nb ne lc bc ec : Nat) (w : World) (h : form op = 8) (hl : Ints w (.slice lo ls.length lc) ls) :
    Calls Tryz.prog 123 #[.agg #[.int .i64 op, .int .i64 a, .int .i64 b, .int .i64 n, .slice lo ls.length lc, .slice bo nb bc, .slice eo ne ec]] w fun e w' => e = .returned (.bool (okF 8 op a b n ls nb ne)) ∧ Below w.heap.size w w' := by
  by_cases g0 : n = 0
  rotate_left
  · have e : okF 8 op a b n ls nb ne = false := by
      show ((idx a && idx b) && bare 0 0 n ls.length nb ne) = false
      rw [bare_not (by intro hh; exact g0 (by omega))]; first | done | rfl | simp
    rw [e]
    exact refOne8xn op a b n ls lo bo eo ls.length nb ne lc bc ec w h hl rfl  (by simp [g0])
  by_cases g1 : ls.length = 0
  rotate_left
  · have e : okF 8 op a b n ls nb ne = false := by
      show ((idx a && idx b) && bare 0 0 n ls.length nb ne) = false
      rw [bare_not (by intro hh; exact g1 (by omega))]; first | done | rfl | simp
    rw [e]
    exact refOne8xlabels op a b n ls lo bo eo ls.length nb ne lc bc ec w h hl rfl (by simp [g0]) (by omega)
  by_cases g2 : nb = 0
  rotate_left
  · have e : okF 8 op a b n ls nb ne = false := by
      show ((idx a && idx b) && bare 0 0 n ls.length nb ne) = false
      rw [bare_not (by intro hh; exact g2 (by omega))]; first | done | rfl | simp
    rw [e]
    exact refOne8xbody op a b n ls lo bo eo ls.length nb ne lc bc ec w h hl rfl (by simp [g0]) g1 (by omega)
  by_cases g3 : ne = 0
  rotate_left
  · have e : okF 8 op a b n ls nb ne = false := by
      show ((idx a && idx b) && bare 0 0 n ls.length nb ne) = false
      rw [bare_not (by intro hh; exact g3 (by omega))]; first | done | rfl | simp
    rw [e]
    exact refOne8xels op a b n ls lo bo eo ls.length nb ne lc bc ec w h hl rfl (by simp [g0]) g1 g2 (by omega)
  have eb : bare 0 0 n ls.length nb ne = true := decide_eq_true (by omega)
  have il : ls.all idx = true := by rw [List.length_eq_zero_iff.1 (by omega : ls.length = 0)]; rfl
  have hne := form_const op (by rw [h]; decide)
  have e : okF 8 op a b n ls nb ne = (idx a && (idx b && ls.all idx)) := by
    show ((idx a && idx b) && bare 0 0 n ls.length nb ne) = _
    rw [eb, il]; first | done | rfl | simp | simp [Bool.and_assoc]
  rw [e]
  exact refOne8e op a b n ls lo bo eo ls.length nb ne lc bc ec w h hl rfl (by simp [g0]) g1 g2 g3 hne.1

theorem refOneF9 (op a b n : Int) (ls : List Int) (lo bo eo : Option Addr) (nb ne lc bc ec : Nat) (w : World) (h : form op = 9) (hl : Ints w (.slice lo ls.length lc) ls) :
    Calls Tryz.prog 123 #[.agg #[.int .i64 op, .int .i64 a, .int .i64 b, .int .i64 n, .slice lo ls.length lc, .slice bo nb bc, .slice eo ne ec]] w fun e w' => e = .returned (.bool (okF 9 op a b n ls nb ne)) ∧ Below w.heap.size w w' := by
  by_cases g0 : a = 0
  rotate_left
  · have e : okF 9 op a b n ls nb ne = false := by
      show ((op == 66 || (decide (-2147483648 ≤ n) && decide (n ≤ 2147483647))) && bare a b 0 ls.length nb ne) = false
      rw [bare_not (by intro hh; exact g0 (by omega))]; first | done | rfl | simp
    rw [e]
    exact refOne9xa op a b n ls lo bo eo ls.length nb ne lc bc ec w h hl rfl  (by simp [g0])
  by_cases g1 : b = 0
  rotate_left
  · have e : okF 9 op a b n ls nb ne = false := by
      show ((op == 66 || (decide (-2147483648 ≤ n) && decide (n ≤ 2147483647))) && bare a b 0 ls.length nb ne) = false
      rw [bare_not (by intro hh; exact g1 (by omega))]; first | done | rfl | simp
    rw [e]
    exact refOne9xb op a b n ls lo bo eo ls.length nb ne lc bc ec w h hl rfl (by simp [g0]) (by simp [g1])
  by_cases g2 : ls.length = 0
  rotate_left
  · have e : okF 9 op a b n ls nb ne = false := by
      show ((op == 66 || (decide (-2147483648 ≤ n) && decide (n ≤ 2147483647))) && bare a b 0 ls.length nb ne) = false
      rw [bare_not (by intro hh; exact g2 (by omega))]; first | done | rfl | simp
    rw [e]
    exact refOne9xlabels op a b n ls lo bo eo ls.length nb ne lc bc ec w h hl rfl (by simp [g0]) (by simp [g1]) (by omega)
  by_cases g3 : nb = 0
  rotate_left
  · have e : okF 9 op a b n ls nb ne = false := by
      show ((op == 66 || (decide (-2147483648 ≤ n) && decide (n ≤ 2147483647))) && bare a b 0 ls.length nb ne) = false
      rw [bare_not (by intro hh; exact g3 (by omega))]; first | done | rfl | simp
    rw [e]
    exact refOne9xbody op a b n ls lo bo eo ls.length nb ne lc bc ec w h hl rfl (by simp [g0]) (by simp [g1]) g2 (by omega)
  by_cases g4 : ne = 0
  rotate_left
  · have e : okF 9 op a b n ls nb ne = false := by
      show ((op == 66 || (decide (-2147483648 ≤ n) && decide (n ≤ 2147483647))) && bare a b 0 ls.length nb ne) = false
      rw [bare_not (by intro hh; exact g4 (by omega))]; first | done | rfl | simp
    rw [e]
    exact refOne9xels op a b n ls lo bo eo ls.length nb ne lc bc ec w h hl rfl (by simp [g0]) (by simp [g1]) g2 g3 (by omega)
  have eb : bare a b 0 ls.length nb ne = true := decide_eq_true (by omega)
  have ia : idx a = true := by rw [show a = 0 by omega]; exact idx0
  have ib : idx b = true := by rw [show b = 0 by omega]; exact idx0
  have il : ls.all idx = true := by rw [List.length_eq_zero_iff.1 (by omega : ls.length = 0)]; rfl
  have hR : (idx a && (idx b && ls.all idx)) = true := by rw [ia, ib, il]; rfl
  by_cases s1 : op = 65
  · have d1 : (op == 66) = false := by simp [s1]
    by_cases s2 : n < -2147483648
    · have e : okF 9 op a b n ls nb ne = false := by
        show ((op == 66 || (decide (-2147483648 ≤ n) && decide (n ≤ 2147483647))) && bare a b 0 ls.length nb ne) = false
        rw [d1, decide_eq_false (by omega : ¬ (-2147483648 ≤ n))]; rfl
      rw [e]
      exact refOne9f op a b n ls lo bo eo ls.length nb ne lc bc ec w h hl rfl (by simp [g0]) (by simp [g1]) g2 g3 g4 s1 s2
    · by_cases s3 : 2147483647 < n
      · have e : okF 9 op a b n ls nb ne = false := by
          show ((op == 66 || (decide (-2147483648 ≤ n) && decide (n ≤ 2147483647))) && bare a b 0 ls.length nb ne) = false
          rw [d1, decide_eq_false (by omega : ¬ (n ≤ 2147483647)), Bool.and_false]; rfl
        rw [e]
        exact refOne9g op a b n ls lo bo eo ls.length nb ne lc bc ec w h hl rfl (by simp [g0]) (by simp [g1]) g2 g3 g4 s1 (by omega) s3
      · have e : okF 9 op a b n ls nb ne = (idx a && (idx b && ls.all idx)) := by
          show ((op == 66 || (decide (-2147483648 ≤ n) && decide (n ≤ 2147483647))) && bare a b 0 ls.length nb ne) = _
          rw [hR, eb, decide_eq_true (by omega : -2147483648 ≤ n), decide_eq_true (by omega : n ≤ 2147483647)]; simp
        rw [e]
        exact refOne9h op a b n ls lo bo eo ls.length nb ne lc bc ec w h hl rfl (by simp [g0]) (by simp [g1]) g2 g3 g4 s1 (by omega) (by omega)
  · have d1 : (op == 66) = true := by
      rcases form_nine op h with h1 | h1
      · exact absurd h1 s1
      · simp [h1]
    have e : okF 9 op a b n ls nb ne = (idx a && (idx b && ls.all idx)) := by
      show ((op == 66 || (decide (-2147483648 ≤ n) && decide (n ≤ 2147483647))) && bare a b 0 ls.length nb ne) = _
      rw [hR, eb, d1]; rfl
    rw [e]
    exact refOne9e op a b n ls lo bo eo ls.length nb ne lc bc ec w h hl rfl (by simp [g0]) (by simp [g1]) g2 g3 g4 s1

theorem refOneF10 (op a b n : Int) (ls : List Int) (lo bo eo : Option Addr) (nb ne lc bc ec : Nat) (w : World) (h : form op = 10) (hl : Ints w (.slice lo ls.length lc) ls) :
    Calls Tryz.prog 123 #[.agg #[.int .i64 op, .int .i64 a, .int .i64 b, .int .i64 n, .slice lo ls.length lc, .slice bo nb bc, .slice eo ne ec]] w fun e w' => e = .returned (.bool (okF 10 op a b n ls nb ne)) ∧ Below w.heap.size w w' := by
  exact refOne10 op a b n ls lo bo eo ls.length nb ne lc bc ec w h hl rfl

theorem refOne (op a b n : Int) (ls : List Int) (lo bo eo : Option Addr) (nb ne lc bc ec : Nat) (w : World) (hl : Ints w (.slice lo ls.length lc) ls) :
    Calls Tryz.prog 123 #[.agg #[.int .i64 op, .int .i64 a, .int .i64 b, .int .i64 n, .slice lo ls.length lc, .slice bo nb bc, .slice eo ne ec]] w fun e w' => e = .returned (.bool (okF (form op) op a b n ls nb ne)) ∧ Below w.heap.size w w' := by
  rcases form_range op with h | h | h | h | h | h | h | h | h | h | h
  · rw [h]; exact refOneF0 op a b n ls lo bo eo nb ne lc bc ec w h hl
  · rw [h]; exact refOneF1 op a b n ls lo bo eo nb ne lc bc ec w h hl
  · rw [h]; exact refOneF2 op a b n ls lo bo eo nb ne lc bc ec w h hl
  · rw [h]; exact refOneF3 op a b n ls lo bo eo nb ne lc bc ec w h hl
  · rw [h]; exact refOneF4 op a b n ls lo bo eo nb ne lc bc ec w h hl
  · rw [h]; exact refOneF5 op a b n ls lo bo eo nb ne lc bc ec w h hl
  · rw [h]; exact refOneF6 op a b n ls lo bo eo nb ne lc bc ec w h hl
  · rw [h]; exact refOneF7 op a b n ls lo bo eo nb ne lc bc ec w h hl
  · rw [h]; exact refOneF8 op a b n ls lo bo eo nb ne lc bc ec w h hl
  · rw [h]; exact refOneF9 op a b n ls lo bo eo nb ne lc bc ec w h hl
  · rw [h]; exact refOneF10 op a b n ls lo bo eo nb ne lc bc ec w h hl
end Go.Proofs.YtloelineidlenaaGreatDoor

namespace Go.Proofs.YtloelineidlenaaGreatDoor
open Go.RowKit Rep
set_option linter.unusedVariables false

namespace Rep
def okL : (d : Nat) → IL d → Bool
  | 0, _ => true
  | d + 1, l => List.all (α := Ins (IL d)) l fun x => okS (sn x) && (okL d x.body && okL d x.els)
def okX (d : Nat) (x : Ins (IL d)) : Bool := okS (sn x) && (okL d x.body && okL d x.els)
end Rep

set_option maxHeartbeats 1000000 in
theorem refAll0 (o : Option Addr) (cap : Nat) (w : World) :
    Calls Tryz.prog 99 #[.slice o 0 cap] w fun e w' => e = .returned (.bool true) ∧ Below w.heap.size w w' := by
  go_enter Tryz.func99, Tryz.ntmps99
  go_wp2_with fail
  go_loopw [3] (fun i wr => i = .int .i64 0 ∧ wr = w) (fun _ _ => 0)
  case atStart => exact ⟨rfl, rfl⟩
  case round =>
    obtain ⟨rfl, rfl⟩ := hrel
    go_wp2
    go_ret
    exact ⟨rfl, Below.refl _ _⟩

def AllSays (d : Nat) : Prop := ∀ (v : Value) (l : IL d) (w : World), At w d v l →
    Calls Tryz.prog 99 #[v] w fun e w' => e = .returned (.bool (okL d l)) ∧ Below w.heap.size w w'

set_option maxHeartbeats 1000000 in
theorem refAllS (d : Nat) (IH : AllSays d) (v : Value) (l : List (Ins (IL d))) (w : World) (hAt : Row 7 (InsAt w (At w d)) v l) :
    Calls Tryz.prog 99 #[v] w fun e w' => e = .returned (.bool (l.all (okX d))) ∧ Below w.heap.size w w' := by
  have hlen := hAt.1
  by_cases hz : l.length = 0
  · obtain ⟨o, cap, rfl⟩ := hAt.len
    rw [hz]
    obtain rfl : l = [] := List.length_eq_zero_iff.1 hz
    exact refAll0 o cap w
  obtain ⟨b, off, cap, rfl, hx⟩ := hAt.some (by omega)
  obtain ⟨R, hR⟩ : ∃ R, R = l.all (okX d) := ⟨_, rfl⟩
  rw [← hR]
  have HR : Hid (R = (l.drop 0).all (okX d)) := hR
  have HX := hideM hx
  have HIH := hideM IH
  clear hx hAt hR IH
  generalize hn : l.length = n at *
  go_enter Tryz.func99, Tryz.ntmps99
  go_wp2_with fail
  go_loopw [3] (fun i wr => ∃ k : Nat, k ≤ n ∧ i = .int .i64 k ∧ Hid (R = (l.drop k).all (okX d)) ∧ Hid (Below w.heap.size w wr)) (fun i _ => n - (RowKit.intOf i).toNat)
  case atStart => exact ⟨0, by omega, rfl, HR, Below.refl _ _⟩
  case round =>
    obtain ⟨k, hk, rfl, HK, HBW⟩ := hrel
    by_cases hgo : k < n
    · obtain ⟨x, hxk⟩ : ∃ x, l[k]? = some x := ⟨_, List.getElem?_eq_getElem (by omega)⟩
      have hI := (HX.out k x hxk).on HBW.out (At.on HBW.out d)
      obtain ⟨k0, k1, k2, k3, ⟨lv, k4, a4⟩, ⟨bv, k5, a5⟩, ⟨ev, k6, a6⟩⟩ := hI
      have HN := hideM (HK.out.trans (all_on hxk rfl))
      have HP : Hid (okX d x = (okF (form x.op) x.op x.a x.b x.n x.labels (size d x.body) (size d x.els) && (okL d x.body && okL d x.els))) := rfl
      have I1 := hideM fun (w' : World) (h : Below wr.heap.size wr w') => HIH.out bv x.body w' (At.on h d _ _ a5)
      have I2 := hideM fun (w' : World) (h : Below wr.heap.size wr w') => HIH.out ev x.els w' (At.on h d _ _ a6)
      obtain ⟨lo, lc, rfl⟩ := Row.len a4
      obtain ⟨bo, bc, rfl⟩ := At.len d bv x.body a5
      obtain ⟨eo, ec, rfl⟩ := At.len d ev x.els a6
      have I0 := hideM (refOne x.op x.a x.b x.n x.labels lo bo eo (size d x.body) (size d x.els) lc bc ec wr a4)
      clear hxk a4 a5 a6 HK
      generalize okF (form x.op) x.op x.a x.b x.n x.labels (size d x.body) (size d x.els) = r0 at *
      generalize okL d x.body = r1 at *
      generalize okL d x.els = r2 at *
      generalize size d x.body = nb at *
      generalize size d x.els = ne at *
      generalize x.labels.length = nl at *
      go_wp2_with fail
      refine I0.out.mono ?_
      rintro e w1 ⟨rfl, hb1⟩
      have m5 := cell_on hb1 k5
      have m6 := cell_on hb1 k6
      have HB1 := hideM hb1
      clear hb1 k0 k1 k2 k3 k4 k5 k6
      cases r0
      · have HF : R = false := by rw [HN.out, HP.out]; rfl
        have HFF := hideM HF
        clear HF HN HP
        go_wp2
        go_ret
        exact ⟨by rw [HFF.out]; rfl, below_go HBW.out HB1.out⟩
      · go_wp2_with fail
        refine (I1.out _ HB1.out).mono ?_
        rintro e w2 ⟨rfl, hb2⟩
        have p6 := cell_on hb2 m6
        have HB2 := hideM (below_go HB1.out hb2)
        clear hb2 m5 m6
        cases r1
        · have HF : R = false := by rw [HN.out, HP.out]; rfl
          have HFF := hideM HF
          clear HF HN HP
          go_wp2
          go_ret
          exact ⟨by rw [HFF.out]; rfl, below_go HBW.out HB2.out⟩
        · go_wp2_with fail
          refine (I2.out _ HB2.out).mono ?_
          rintro e w3 ⟨rfl, hb3⟩
          have HB3 := hideM (below_go HBW.out (below_go HB2.out hb3))
          clear hb3 p6
          cases r2
          · have HF : R = false := by rw [HN.out, HP.out]; rfl
            have HFF := hideM HF
            clear HF HN HP
            go_wp2
            go_ret
            exact ⟨by rw [HFF.out]; rfl, HB3.out⟩
          · have HF : Hid (R = (l.drop (k + 1)).all (okX d)) := hideM (by rw [HN.out, HP.out]; rfl)
            clear HN HP
            go_wp2
            go_roundw
            case rel => exact ⟨k + 1, by omega, by go_num, HF, HB3⟩
            case measure => simp [RowKit.intOf]; omega
    · have HE : R = true := all_end (by omega) HK.out
      have HEE := hideM HE
      clear HE HK
      go_wp2
      go_ret
      exact ⟨by rw [HEE.out]; rfl, HBW.out⟩

theorem refAll : ∀ (d : Nat), AllSays d
  | 0 => fun v l w ⟨o, c, hv⟩ => by
    subst hv
    exact refAll0 o c w
  | d + 1 => fun v l w hAt => refAllS d (refAll d) v l w hAt

set_option maxHeartbeats 1000000 in
theorem refConstant (op a b n : Int) (ls : List Int) (lo bo eo : Option Addr) (nb ne lc bc ec : Nat) (w : World) (hl : Ints w (.slice lo ls.length lc) ls) :
    Calls Tryz.prog 100 #[.agg #[.int .i64 op, .int .i64 a, .int .i64 b, .int .i64 n, .slice lo ls.length lc, .slice bo nb bc, .slice eo ne ec]] w fun e w' => e = .returned (.bool (cst op && okF (form op) op a b n ls nb ne)) ∧ Below w.heap.size w w' := by
  have HO := hideM fun (w' : World) (h : Below w.heap.size w w') => refOne op a b n ls lo bo eo nb ne lc bc ec w' (hl.on h)
  clear hl
  generalize okF (form op) op a b n ls nb ne = r at *
  generalize ls.length = nl at *
  unfold cst
  have hw := hideM fun (o : Obj) => (Below.refl w.heap.size w).alloc (Nat.le_refl _) o
  cases h1 : op == 65
  · cases h2 : op == 66
    · cases h3 : op == 35
      · go_enter Tryz.func100, Tryz.ntmps100
        go_wp2
        go_ret
        exact ⟨rfl, hw.out _⟩
      · go_enter Tryz.func100, Tryz.ntmps100
        go_wp2_with fail
        refine (HO.out _ (hw.out _)).mono ?_
        rintro e u ⟨rfl, hb⟩
        go_wp2
        go_ret
        exact ⟨rfl, below_go (hw.out _) hb⟩
    · go_enter Tryz.func100, Tryz.ntmps100
      go_wp2_with fail
      refine (HO.out _ (hw.out _)).mono ?_
      rintro e u ⟨rfl, hb⟩
      go_wp2
      go_ret
      exact ⟨rfl, below_go (hw.out _) hb⟩
  · go_enter Tryz.func100, Tryz.ntmps100
    go_wp2_with fail
    refine (HO.out _ (hw.out _)).mono ?_
    rintro e u ⟨rfl, hb⟩
    go_wp2
    go_ret
    exact ⟨rfl, below_go (hw.out _) hb⟩
end Go.Proofs.YtloelineidlenaaGreatDoor

namespace Go.Proofs.YtloelineidlenaaGreatDoor
open Go.RowKit Rep
set_option linter.unusedVariables false
namespace Rep
def dT (t : FT) : Bool := t.params.all typ && t.results.all typ
def dI (i : Imp) : Bool := idx i.type && (nmD i.mod && nmD i.name)
def dF {d : Nat} (f : Fun d) : Bool := idx f.type && (f.locals.all typ && okL d f.body)
def dC {d : Nat} (x : Ins (IL d)) : Bool := cst x.op && okF (form x.op) x.op x.a x.b x.n x.labels (size d x.body) (size d x.els)
def dG {d : Nat} (g : Glo d) : Bool := [g.type].all typ && dC g.init
def dE (e : Exp) : Bool := nmD e.name && (decide (0 ≤ e.kind ∧ e.kind ≤ 3) && idx e.index)
def dL {d : Nat} (e : Elm d) : Bool := dC e.offset && e.funcs.all idx
def dD {d : Nat} (x : Dat d) : Bool := dC x.offset
def shD {d : Nat} (m : Mod d) : Bool :=
  m.types.all dT && (m.imports.all dI && (m.funcs.all dF && (m.globals.all dG && (m.exports.all dE && (m.elems.all dL && (m.datas.all dD && (m.tables.all shL && (m.mems.all shL && m.start.all idx))))))))
theorem all_step {α : Type} {p : α → Bool} {l : List α} {j : Nat} {x : α} {R T : Bool} (hx : l[j]? = some x) (h : R = ((l.drop j).all p && T)) : R = (p x && ((l.drop (j + 1)).all p && T)) := by
  rw [h, all_at hx rfl, Bool.and_assoc]
theorem all_out {α : Type} {p : α → Bool} {l : List α} {j : Nat} {R T : Bool} (hj : l.length ≤ j) (h : R = ((l.drop j).all p && T)) : R = T := by
  rw [h, List.drop_of_length_le hj]; rfl
theorem below_rfl {u v : World} (h : v = u) : Below u.heap.size u v := by rw [h]; exact Below.refl _ _
end Rep
set_option maxRecDepth 100000 in
set_option maxHeartbeats 8000000 in
theorem refShape (d : Nat) (v0 v1 v2 v3 v4 v5 v6 v7 v8 v9 : Value) (m : Mod d) (w : World) (hM : ModAt w d v0 v1 v2 v3 v4 v5 v6 v7 v8 v9 m) (hX : Texts m) :
    Calls Tryz.prog 61 #[.agg #[v0, v1, v2, v3, v4, v5, v6, v7, v8, v9]] w fun e w' => e = .returned (.bool (shD m)) ∧ Below w.heap.size w w' := by
  have l0 := hM.types.1
  have l1 := hM.imports.1
  have l2 := hM.funcs.1
  have l3 := hM.tables.1
  have l4 := hM.mems.1
  have l5 := hM.globals.1
  have l6 := hM.exports.1
  have l7 := hM.start.1
  have l8 := hM.elems.1
  have l9 := hM.datas.1
  have HM := hideR hM
  have HX := hideR hX
  obtain ⟨o0, c0, rfl⟩ := Row.len hM.types
  obtain ⟨o1, c1, rfl⟩ := Row.len hM.imports
  obtain ⟨o2, c2, rfl⟩ := Row.len hM.funcs
  obtain ⟨o3, c3, rfl⟩ := Row.len hM.tables
  obtain ⟨o4, c4, rfl⟩ := Row.len hM.mems
  obtain ⟨o5, c5, rfl⟩ := Row.len hM.globals
  obtain ⟨o6, c6, rfl⟩ := Row.len hM.exports
  obtain ⟨o7, c7, rfl⟩ := Row.len hM.start
  obtain ⟨o8, c8, rfl⟩ := Row.len hM.elems
  obtain ⟨o9, c9, rfl⟩ := Row.len hM.datas
  have HS := hideR (Box.start w 32 (.slice o0 m.types.length c0) (.slice o1 m.imports.length c1) (.slice o2 m.funcs.length c2) (.slice o3 m.tables.length c3) (.slice o4 m.mems.length c4) (.slice o5 m.globals.length c5) (.slice o6 m.exports.length c6) (.slice o7 m.start.length c7) (.slice o8 m.elems.length c8) (.slice o9 m.datas.length c9))
  obtain ⟨R, hR⟩ : ∃ R, R = shD m := ⟨_, rfl⟩
  rw [← hR]
  have HR : Hid (R = ((m.types.drop 0).all dT && (m.imports.all dI && (m.funcs.all dF && (m.globals.all dG && (m.exports.all dE && (m.elems.all dL && (m.datas.all dD && (m.tables.all shL && (m.mems.all shL && m.start.all idx)))))))))) := hR
  clear hM hX hR
  generalize hn0 : m.types.length = n0 at *
  generalize hn1 : m.imports.length = n1 at *
  generalize hn2 : m.funcs.length = n2 at *
  generalize hn3 : m.tables.length = n3 at *
  generalize hn4 : m.mems.length = n4 at *
  generalize hn5 : m.globals.length = n5 at *
  generalize hn6 : m.exports.length = n6 at *
  generalize hn7 : m.start.length = n7 at *
  generalize hn8 : m.elems.length = n8 at *
  generalize hn9 : m.datas.length = n9 at *
  go_enter Tryz.func61, Tryz.ntmps61
  go_upto_region 1 with fail
  obtain ⟨wb, hwb⟩ : ∃ wb, wb = w.alloc (.cells #[.slice o0 n0 c0, .slice o1 n1 c1, .slice o2 n2 c2, .slice o3 n3 c3, .slice o4 n4 c4, .slice o5 n5 c5, .slice o6 n6 c6, .slice o7 n7 c7, .slice o8 n8 c8, .slice o9 n9 c9] 32) := ⟨_, rfl⟩
  rw [← hwb] at HS ⊢
  clear hwb
  obtain ⟨q0, q1, q2, q3, q4, q5, q6, q7, q8, q9, qb⟩ := HS.out
  clear qb
  go_wp2_with fail
  go_loopw [3] (fun i wr => ∃ j : Nat, j ≤ n0 ∧ i = .int .i64 j ∧ Hid (R = ((m.types.drop j).all dT && (m.imports.all dI && (m.funcs.all dF && (m.globals.all dG && (m.exports.all dE && (m.elems.all dL && (m.datas.all dD && (m.tables.all shL && (m.mems.all shL && m.start.all idx)))))))))) ∧ Hid (Box w (.slice o0 n0 c0) (.slice o1 n1 c1) (.slice o2 n2 c2) (.slice o3 n3 c3) (.slice o4 n4 c4) (.slice o5 n5 c5) (.slice o6 n6 c6) (.slice o7 n7 c7) (.slice o8 n8 c8) (.slice o9 n9 c9) wr)) (fun i _ => n0 - (RowKit.intOf i).toNat)
  case atStart => exact ⟨0, by omega, rfl, HR, HS⟩
  case round =>
    obtain ⟨j0, hj, rfl, HK, HS⟩ := hrel
    by_cases hgo : j0 < n0
    · obtain ⟨q0, q1, q2, q3, q4, q5, q6, q7, q8, q9, qb⟩ := HS.out
      clear qb q1 q2 q3 q4 q5 q6 q7 q8 q9
      obtain ⟨b, off, cap2, hv2, hx⟩ := Row.some ((HM.out.on HS.out.bel).types) (by omega)
      injection hv2 with ho h2 h3
      subst ho
      obtain ⟨x, hxk⟩ : ∃ x, m.types[j0]? = some x := ⟨_, List.getElem?_eq_getElem (by omega)⟩
      have HI := hideR (hx j0 x hxk)
      have HN : Hid (R = ((x.params.all typ && x.results.all typ) && ((m.types.drop (j0 + 1)).all dT && (m.imports.all dI && (m.funcs.all dF && (m.globals.all dG && (m.exports.all dE && (m.elems.all dL && (m.datas.all dD && (m.tables.all shL && (m.mems.all shL && m.start.all idx))))))))))) := hideR (all_step hxk HK.out)
      clear hx hxk h2 h3 HK
      obtain ⟨vp, k0, ip⟩ := HI.out.params
      obtain ⟨op, cp, rfl⟩ := Row.len ip
      have IP := hideR ip
      clear ip
      go_wp2_with fail
      refine (refTypes _ x.params _ IP.out).mono ?_
      rintro e u0 ⟨rfl, hu⟩
      obtain rfl : wr = u0 := hu.symm
      generalize x.params.all typ = t00 at *
      cases t00 with
      | false =>
        obtain rfl : R = false := HN.out
        clear HN
        go_wp2
        go_ret
        exact ⟨rfl, HS.out.bel⟩
      | true =>
        obtain ⟨vr, k1, ir⟩ := HI.out.results
        obtain ⟨or, cr, rfl⟩ := Row.len ir
        have IR := hideR ir
        clear ir
        go_wp2_with fail
        refine (refTypes _ x.results _ IR.out).mono ?_
        rintro e u1 ⟨rfl, hu⟩
        obtain rfl : wr = u1 := hu.symm
        generalize x.results.all typ = t01 at *
        cases t01 with
        | false =>
          obtain rfl : R = false := HN.out
          clear HN
          go_wp2
          go_ret
          exact ⟨rfl, HS.out.bel⟩
        | true =>
          have HN2 : Hid (R = ((m.types.drop (j0 + 1)).all dT && (m.imports.all dI && (m.funcs.all dF && (m.globals.all dG && (m.exports.all dE && (m.elems.all dL && (m.datas.all dD && (m.tables.all shL && (m.mems.all shL && m.start.all idx)))))))))) := hideR (by rw [HN.out]; simp only [Bool.true_and])
          clear HN
          go_wp2
          go_roundw
          case rel => exact ⟨j0 + 1, by omega, by go_num, HN2, HS⟩
          case measure => simp [RowKit.intOf]; omega
    obtain rfl : n0 = j0 := by omega
    have HR := hideR (all_out (by omega) HK.out)
    clear HK
    obtain ⟨q0, q1, q2, q3, q4, q5, q6, q7, q8, q9, qb⟩ := HS.out
    clear qb
    go_wp2_with fail
    go_loopw [4] (fun i wr => ∃ j : Nat, j ≤ n1 ∧ i = .int .i64 j ∧ Hid (R = ((m.imports.drop j).all dI && (m.funcs.all dF && (m.globals.all dG && (m.exports.all dE && (m.elems.all dL && (m.datas.all dD && (m.tables.all shL && (m.mems.all shL && m.start.all idx))))))))) ∧ Hid (Box w (.slice o0 n0 c0) (.slice o1 n1 c1) (.slice o2 n2 c2) (.slice o3 n3 c3) (.slice o4 n4 c4) (.slice o5 n5 c5) (.slice o6 n6 c6) (.slice o7 n7 c7) (.slice o8 n8 c8) (.slice o9 n9 c9) wr)) (fun i _ => n1 - (RowKit.intOf i).toNat)
    case atStart => exact ⟨0, by omega, rfl, HR, HS⟩
    case round =>
      obtain ⟨j1, hj, rfl, HK, HS⟩ := hrel
      by_cases hgo : j1 < n1
      · obtain ⟨q0, q1, q2, q3, q4, q5, q6, q7, q8, q9, qb⟩ := HS.out
        clear qb q0 q2 q3 q4 q5 q6 q7 q8 q9
        obtain ⟨b, off, cap2, hv2, hx⟩ := Row.some ((HM.out.on HS.out.bel).imports) (by omega)
        injection hv2 with ho h2 h3
        subst ho
        obtain ⟨x, hxk⟩ : ∃ x, m.imports[j1]? = some x := ⟨_, List.getElem?_eq_getElem (by omega)⟩
        have HI := hideR (hx j1 x hxk)
        have hz := HX.out.imports x (List.mem_of_getElem? hxk)
        have HN : Hid (R = ((idx x.type && (nmD x.mod && nmD x.name)) && ((m.imports.drop (j1 + 1)).all dI && (m.funcs.all dF && (m.globals.all dG && (m.exports.all dE && (m.elems.all dL && (m.datas.all dD && (m.tables.all shL && (m.mems.all shL && m.start.all idx)))))))))) := hideR (all_step hxk HK.out)
        clear hx hxk h2 h3 HK
        have k2 := HI.out.type
        go_wp2_with fail
        refine (refIndex _ _).mono ?_
        rintro e u0 ⟨rfl, hu⟩
        obtain rfl : wr = u0 := hu.symm
        generalize idx x.type = t10 at *
        cases t10 with
        | false =>
          obtain rfl : R = false := HN.out
          clear HN
          go_wp2
          go_ret
          exact ⟨rfl, HS.out.bel⟩
        | true =>
          have k0 := HI.out.mod
          go_wp2_with fail
          refine (refName _ _ hz.1).mono ?_
          rintro e u1 ⟨rfl, hu⟩
          obtain rfl : wr = u1 := hu.symm
          generalize nmD x.mod = t11 at *
          cases t11 with
          | false =>
            obtain rfl : R = false := HN.out
            clear HN
            go_wp2
            go_ret
            exact ⟨rfl, HS.out.bel⟩
          | true =>
            have k1 := HI.out.name
            go_wp2_with fail
            refine (refName _ _ hz.2).mono ?_
            rintro e u2 ⟨rfl, hu⟩
            obtain rfl : wr = u2 := hu.symm
            generalize nmD x.name = t12 at *
            cases t12 with
            | false =>
              obtain rfl : R = false := HN.out
              clear HN
              go_wp2
              go_ret
              exact ⟨rfl, HS.out.bel⟩
            | true =>
              have HN2 : Hid (R = ((m.imports.drop (j1 + 1)).all dI && (m.funcs.all dF && (m.globals.all dG && (m.exports.all dE && (m.elems.all dL && (m.datas.all dD && (m.tables.all shL && (m.mems.all shL && m.start.all idx))))))))) := hideR (by rw [HN.out]; simp only [Bool.true_and])
              clear HN
              go_wp2
              go_roundw
              case rel => exact ⟨j1 + 1, by omega, by go_num, HN2, HS⟩
              case measure => simp [RowKit.intOf]; omega
      obtain rfl : n1 = j1 := by omega
      have HR := hideR (all_out (by omega) HK.out)
      clear HK
      obtain ⟨q0, q1, q2, q3, q4, q5, q6, q7, q8, q9, qb⟩ := HS.out
      clear qb
      go_wp2_with fail
      go_loopw [5] (fun i wr => ∃ j : Nat, j ≤ n2 ∧ i = .int .i64 j ∧ Hid (R = ((m.funcs.drop j).all dF && (m.globals.all dG && (m.exports.all dE && (m.elems.all dL && (m.datas.all dD && (m.tables.all shL && (m.mems.all shL && m.start.all idx)))))))) ∧ Hid (Box w (.slice o0 n0 c0) (.slice o1 n1 c1) (.slice o2 n2 c2) (.slice o3 n3 c3) (.slice o4 n4 c4) (.slice o5 n5 c5) (.slice o6 n6 c6) (.slice o7 n7 c7) (.slice o8 n8 c8) (.slice o9 n9 c9) wr)) (fun i _ => n2 - (RowKit.intOf i).toNat)
      case atStart => exact ⟨0, by omega, rfl, HR, HS⟩
      case round =>
        obtain ⟨j2, hj, rfl, HK, HS⟩ := hrel
        by_cases hgo : j2 < n2
        · obtain ⟨q0, q1, q2, q3, q4, q5, q6, q7, q8, q9, qb⟩ := HS.out
          clear qb q0 q1 q3 q4 q5 q6 q7 q8 q9
          obtain ⟨b, off, cap2, hv2, hx⟩ := Row.some ((HM.out.on HS.out.bel).funcs) (by omega)
          injection hv2 with ho h2 h3
          subst ho
          obtain ⟨x, hxk⟩ : ∃ x, m.funcs[j2]? = some x := ⟨_, List.getElem?_eq_getElem (by omega)⟩
          have HI := hideR (hx j2 x hxk)
          have HN : Hid (R = ((idx x.type && (x.locals.all typ && okL d x.body)) && ((m.funcs.drop (j2 + 1)).all dF && (m.globals.all dG && (m.exports.all dE && (m.elems.all dL && (m.datas.all dD && (m.tables.all shL && (m.mems.all shL && m.start.all idx))))))))) := hideR (all_step hxk HK.out)
          clear hx hxk h2 h3 HK
          have k0 := HI.out.type
          go_wp2_with fail
          refine (refIndex _ _).mono ?_
          rintro e u0 ⟨rfl, hu⟩
          obtain rfl : wr = u0 := hu.symm
          generalize idx x.type = t20 at *
          cases t20 with
          | false =>
            obtain rfl : R = false := HN.out
            clear HN
            go_wp2
            go_ret
            exact ⟨rfl, HS.out.bel⟩
          | true =>
            obtain ⟨vp, k1, ip⟩ := HI.out.locals
            obtain ⟨op, cp, rfl⟩ := Row.len ip
            have IP := hideR ip
            clear ip
            go_wp2_with fail
            refine (refTypes _ x.locals _ IP.out).mono ?_
            rintro e u1 ⟨rfl, hu⟩
            obtain rfl : wr = u1 := hu.symm
            generalize x.locals.all typ = t21 at *
            cases t21 with
            | false =>
              obtain rfl : R = false := HN.out
              clear HN
              go_wp2
              go_ret
              exact ⟨rfl, HS.out.bel⟩
            | true =>
              obtain ⟨vb, k2, ab⟩ := HI.out.body
              obtain ⟨ob, cb, rfl⟩ := At.len d vb _ ab
              have AB := hideR ab
              clear ab
              go_wp2_with fail
              refine (refAll d _ x.body _ AB.out).mono ?_
              rintro e u2 ⟨rfl, hb⟩
              have HS := hideR (HS.out.on hb)
              have HI := hideR (HI.out.on hb)
              clear hb q2 k2
              obtain ⟨q0, q1, q2, q3, q4, q5, q6, q7, q8, q9, qb⟩ := HS.out
              clear qb q0 q1 q3 q4 q5 q6 q7 q8 q9
              generalize okL d x.body = t22 at *
              cases t22 with
              | false =>
                obtain rfl : R = false := HN.out
                clear HN
                go_wp2
                go_ret
                exact ⟨rfl, HS.out.bel⟩
              | true =>
                have HN2 : Hid (R = ((m.funcs.drop (j2 + 1)).all dF && (m.globals.all dG && (m.exports.all dE && (m.elems.all dL && (m.datas.all dD && (m.tables.all shL && (m.mems.all shL && m.start.all idx)))))))) := hideR (by rw [HN.out]; simp only [Bool.true_and])
                clear HN
                go_wp2
                go_roundw
                case rel => exact ⟨j2 + 1, by omega, by go_num, HN2, HS⟩
                case measure => simp [RowKit.intOf]; omega
        obtain rfl : n2 = j2 := by omega
        have HR := hideR (all_out (by omega) HK.out)
        clear HK
        obtain ⟨q0, q1, q2, q3, q4, q5, q6, q7, q8, q9, qb⟩ := HS.out
        clear qb
        go_wp2_with fail
        go_loopw [6] (fun i wr => ∃ j : Nat, j ≤ n5 ∧ i = .int .i64 j ∧ Hid (R = ((m.globals.drop j).all dG && (m.exports.all dE && (m.elems.all dL && (m.datas.all dD && (m.tables.all shL && (m.mems.all shL && m.start.all idx))))))) ∧ Hid (Box w (.slice o0 n0 c0) (.slice o1 n1 c1) (.slice o2 n2 c2) (.slice o3 n3 c3) (.slice o4 n4 c4) (.slice o5 n5 c5) (.slice o6 n6 c6) (.slice o7 n7 c7) (.slice o8 n8 c8) (.slice o9 n9 c9) wr)) (fun i _ => n5 - (RowKit.intOf i).toNat)
        case atStart => exact ⟨0, by omega, rfl, HR, HS⟩
        case round =>
          obtain ⟨j3, hj, rfl, HK, HS⟩ := hrel
          by_cases hgo : j3 < n5
          · obtain ⟨q0, q1, q2, q3, q4, q5, q6, q7, q8, q9, qb⟩ := HS.out
            clear qb q0 q1 q2 q3 q4 q6 q7 q8 q9
            obtain ⟨b, off, cap2, hv2, hx⟩ := Row.some ((HM.out.on HS.out.bel).globals) (by omega)
            injection hv2 with ho h2 h3
            subst ho
            obtain ⟨x, hxk⟩ : ∃ x, m.globals[j3]? = some x := ⟨_, List.getElem?_eq_getElem (by omega)⟩
            have HI := hideR (hx j3 x hxk)
            have HN : Hid (R = (([x.type].all typ && (cst x.init.op && okF (form x.init.op) x.init.op x.init.a x.init.b x.init.n x.init.labels (size d x.init.body) (size d x.init.els))) && ((m.globals.drop (j3 + 1)).all dG && (m.exports.all dE && (m.elems.all dL && (m.datas.all dD && (m.tables.all shL && (m.mems.all shL && m.start.all idx)))))))) := hideR (all_step hxk HK.out)
            clear hx hxk h2 h3 HK
            have k0 := HI.out.type
            go_wp2_with fail
            refine (refTypes _ [x.type] _ (ints_new _ _ _ _ [x.type] (by simp) (by simp))).mono ?_
            rintro e u0 ⟨rfl, hu⟩
            have hb := below_al hu
            clear hu
            have HS := hideR (HS.out.on hb)
            have HI := hideR (HI.out.on hb)
            clear hb q5 k0
            obtain ⟨q0, q1, q2, q3, q4, q5, q6, q7, q8, q9, qb⟩ := HS.out
            clear qb q0 q1 q2 q3 q4 q6 q7 q8 q9
            generalize [x.type].all typ = t30 at *
            cases t30 with
            | false =>
              obtain rfl : R = false := HN.out
              clear HN
              go_wp2
              go_ret
              exact ⟨rfl, HS.out.bel⟩
            | true =>
              obtain ⟨g0, g1, g2, g3, ⟨lv, g4, a4⟩, ⟨bv, g5, a5⟩, ⟨ev, g6, a6⟩⟩ := HI.out.init
              have k2 : u0.cell? ⟨b, off + j3 * 9 + 2, none⟩ = _ := g0
              have k3 : u0.cell? ⟨b, off + j3 * 9 + 3, none⟩ = _ := g1
              have k4 : u0.cell? ⟨b, off + j3 * 9 + 4, none⟩ = _ := g2
              have k5 : u0.cell? ⟨b, off + j3 * 9 + 5, none⟩ = _ := g3
              have k6 : u0.cell? ⟨b, off + j3 * 9 + 6, none⟩ = _ := g4
              have k7 : u0.cell? ⟨b, off + j3 * 9 + 7, none⟩ = _ := g5
              have k8 : u0.cell? ⟨b, off + j3 * 9 + 8, none⟩ = _ := g6
              clear g0 g1 g2 g3 g4 g5 g6
              obtain ⟨lo, lc, rfl⟩ := Row.len a4
              obtain ⟨bo, bc, rfl⟩ := At.len d bv _ a5
              obtain ⟨eo, ec, rfl⟩ := At.len d ev _ a6
              have A4 := hideR a4
              clear a4 a5 a6
              go_wp2_with fail
              refine (refConstant x.init.op x.init.a x.init.b x.init.n x.init.labels lo bo eo _ _ lc bc ec _ A4.out).mono ?_
              rintro e u1 ⟨rfl, hb⟩
              have HS := hideR (HS.out.on hb)
              have HI := hideR (HI.out.on hb)
              clear hb q5 k2 k3 k4 k5 k6 k7 k8
              obtain ⟨q0, q1, q2, q3, q4, q5, q6, q7, q8, q9, qb⟩ := HS.out
              clear qb q0 q1 q2 q3 q4 q6 q7 q8 q9
              generalize (cst x.init.op && okF (form x.init.op) x.init.op x.init.a x.init.b x.init.n x.init.labels (size d x.init.body) (size d x.init.els)) = t31 at *
              cases t31 with
              | false =>
                obtain rfl : R = false := HN.out
                clear HN
                go_wp2
                go_ret
                exact ⟨rfl, HS.out.bel⟩
              | true =>
                have HN2 : Hid (R = ((m.globals.drop (j3 + 1)).all dG && (m.exports.all dE && (m.elems.all dL && (m.datas.all dD && (m.tables.all shL && (m.mems.all shL && m.start.all idx))))))) := hideR (by rw [HN.out]; simp only [Bool.true_and])
                clear HN
                go_wp2
                go_roundw
                case rel => exact ⟨j3 + 1, by omega, by go_num, HN2, HS⟩
                case measure => simp [RowKit.intOf]; omega
          obtain rfl : n5 = j3 := by omega
          have HR := hideR (all_out (by omega) HK.out)
          clear HK
          obtain ⟨q0, q1, q2, q3, q4, q5, q6, q7, q8, q9, qb⟩ := HS.out
          clear qb
          go_wp2_with fail
          go_loopw [7] (fun i wr => ∃ j : Nat, j ≤ n6 ∧ i = .int .i64 j ∧ Hid (R = ((m.exports.drop j).all dE && (m.elems.all dL && (m.datas.all dD && (m.tables.all shL && (m.mems.all shL && m.start.all idx)))))) ∧ Hid (Box w (.slice o0 n0 c0) (.slice o1 n1 c1) (.slice o2 n2 c2) (.slice o3 n3 c3) (.slice o4 n4 c4) (.slice o5 n5 c5) (.slice o6 n6 c6) (.slice o7 n7 c7) (.slice o8 n8 c8) (.slice o9 n9 c9) wr)) (fun i _ => n6 - (RowKit.intOf i).toNat)
          case atStart => exact ⟨0, by omega, rfl, HR, HS⟩
          case round =>
            obtain ⟨j4, hj, rfl, HK, HS⟩ := hrel
            by_cases hgo : j4 < n6
            · obtain ⟨q0, q1, q2, q3, q4, q5, q6, q7, q8, q9, qb⟩ := HS.out
              clear qb q0 q1 q2 q3 q4 q5 q7 q8 q9
              obtain ⟨b, off, cap2, hv2, hx⟩ := Row.some ((HM.out.on HS.out.bel).exports) (by omega)
              injection hv2 with ho h2 h3
              subst ho
              obtain ⟨x, hxk⟩ : ∃ x, m.exports[j4]? = some x := ⟨_, List.getElem?_eq_getElem (by omega)⟩
              have HI := hideR (hx j4 x hxk)
              have hz := HX.out.exports x (List.mem_of_getElem? hxk)
              have HN : Hid (R = ((nmD x.name && (decide (0 ≤ x.kind ∧ x.kind ≤ 3) && idx x.index)) && ((m.exports.drop (j4 + 1)).all dE && (m.elems.all dL && (m.datas.all dD && (m.tables.all shL && (m.mems.all shL && m.start.all idx))))))) := hideR (all_step hxk HK.out)
              clear hx hxk h2 h3 HK
              have k0 := HI.out.name
              go_wp2_with fail
              refine (refName _ _ hz).mono ?_
              rintro e u0 ⟨rfl, hu⟩
              obtain rfl : wr = u0 := hu.symm
              generalize nmD x.name = t40 at *
              cases t40 with
              | false =>
                obtain rfl : R = false := HN.out
                clear HN
                go_wp2
                go_ret
                exact ⟨rfl, HS.out.bel⟩
              | true =>
                have k1 := HI.out.kind
                go_wp2_with fail
                refine (refIn _ _ _ _).mono ?_
                rintro e u1 ⟨rfl, hu⟩
                obtain rfl : wr = u1 := hu.symm
                generalize decide (0 ≤ x.kind ∧ x.kind ≤ 3) = t41 at *
                cases t41 with
                | false =>
                  obtain rfl : R = false := HN.out
                  clear HN
                  go_wp2
                  go_ret
                  exact ⟨rfl, HS.out.bel⟩
                | true =>
                  have k2 := HI.out.index
                  go_wp2_with fail
                  refine (refIndex _ _).mono ?_
                  rintro e u2 ⟨rfl, hu⟩
                  obtain rfl : wr = u2 := hu.symm
                  generalize idx x.index = t42 at *
                  cases t42 with
                  | false =>
                    obtain rfl : R = false := HN.out
                    clear HN
                    go_wp2
                    go_ret
                    exact ⟨rfl, HS.out.bel⟩
                  | true =>
                    have HN2 : Hid (R = ((m.exports.drop (j4 + 1)).all dE && (m.elems.all dL && (m.datas.all dD && (m.tables.all shL && (m.mems.all shL && m.start.all idx)))))) := hideR (by rw [HN.out]; simp only [Bool.true_and])
                    clear HN
                    go_wp2
                    go_roundw
                    case rel => exact ⟨j4 + 1, by omega, by go_num, HN2, HS⟩
                    case measure => simp [RowKit.intOf]; omega
            obtain rfl : n6 = j4 := by omega
            have HR := hideR (all_out (by omega) HK.out)
            clear HK
            obtain ⟨q0, q1, q2, q3, q4, q5, q6, q7, q8, q9, qb⟩ := HS.out
            clear qb
            go_wp2_with fail
            go_loopw [8] (fun i wr => ∃ j : Nat, j ≤ n8 ∧ i = .int .i64 j ∧ Hid (R = ((m.elems.drop j).all dL && (m.datas.all dD && (m.tables.all shL && (m.mems.all shL && m.start.all idx))))) ∧ Hid (Box w (.slice o0 n0 c0) (.slice o1 n1 c1) (.slice o2 n2 c2) (.slice o3 n3 c3) (.slice o4 n4 c4) (.slice o5 n5 c5) (.slice o6 n6 c6) (.slice o7 n7 c7) (.slice o8 n8 c8) (.slice o9 n9 c9) wr)) (fun i _ => n8 - (RowKit.intOf i).toNat)
            case atStart => exact ⟨0, by omega, rfl, HR, HS⟩
            case round =>
              obtain ⟨j5, hj, rfl, HK, HS⟩ := hrel
              by_cases hgo : j5 < n8
              · obtain ⟨q0, q1, q2, q3, q4, q5, q6, q7, q8, q9, qb⟩ := HS.out
                clear qb q0 q1 q2 q3 q4 q5 q6 q7 q9
                obtain ⟨b, off, cap2, hv2, hx⟩ := Row.some ((HM.out.on HS.out.bel).elems) (by omega)
                injection hv2 with ho h2 h3
                subst ho
                obtain ⟨x, hxk⟩ : ∃ x, m.elems[j5]? = some x := ⟨_, List.getElem?_eq_getElem (by omega)⟩
                have HI := hideR (hx j5 x hxk)
                have HN : Hid (R = (((cst x.offset.op && okF (form x.offset.op) x.offset.op x.offset.a x.offset.b x.offset.n x.offset.labels (size d x.offset.body) (size d x.offset.els)) && x.funcs.all idx) && ((m.elems.drop (j5 + 1)).all dL && (m.datas.all dD && (m.tables.all shL && (m.mems.all shL && m.start.all idx)))))) := hideR (all_step hxk HK.out)
                clear hx hxk h2 h3 HK
                obtain ⟨g0, g1, g2, g3, ⟨lv, g4, a4⟩, ⟨bv, g5, a5⟩, ⟨ev, g6, a6⟩⟩ := HI.out.offset
                have k0 : wr.cell? ⟨b, off + j5 * 8, none⟩ = _ := g0
                have k1 : wr.cell? ⟨b, off + j5 * 8 + 1, none⟩ = _ := g1
                have k2 : wr.cell? ⟨b, off + j5 * 8 + 2, none⟩ = _ := g2
                have k3 : wr.cell? ⟨b, off + j5 * 8 + 3, none⟩ = _ := g3
                have k4 : wr.cell? ⟨b, off + j5 * 8 + 4, none⟩ = _ := g4
                have k5 : wr.cell? ⟨b, off + j5 * 8 + 5, none⟩ = _ := g5
                have k6 : wr.cell? ⟨b, off + j5 * 8 + 6, none⟩ = _ := g6
                clear g0 g1 g2 g3 g4 g5 g6
                obtain ⟨lo, lc, rfl⟩ := Row.len a4
                obtain ⟨bo, bc, rfl⟩ := At.len d bv _ a5
                obtain ⟨eo, ec, rfl⟩ := At.len d ev _ a6
                have A4 := hideR a4
                clear a4 a5 a6
                go_wp2_with fail
                refine (refConstant x.offset.op x.offset.a x.offset.b x.offset.n x.offset.labels lo bo eo _ _ lc bc ec _ A4.out).mono ?_
                rintro e u0 ⟨rfl, hb⟩
                have HS := hideR (HS.out.on hb)
                have HI := hideR (HI.out.on hb)
                clear hb q8 k0 k1 k2 k3 k4 k5 k6
                obtain ⟨q0, q1, q2, q3, q4, q5, q6, q7, q8, q9, qb⟩ := HS.out
                clear qb q0 q1 q2 q3 q4 q5 q6 q7 q9
                generalize (cst x.offset.op && okF (form x.offset.op) x.offset.op x.offset.a x.offset.b x.offset.n x.offset.labels (size d x.offset.body) (size d x.offset.els)) = t50 at *
                cases t50 with
                | false =>
                  obtain rfl : R = false := HN.out
                  clear HN
                  go_wp2
                  go_ret
                  exact ⟨rfl, HS.out.bel⟩
                | true =>
                  obtain ⟨vp, k7, ip⟩ := HI.out.funcs
                  obtain ⟨op, cp, rfl⟩ := Row.len ip
                  have IP := hideR ip
                  clear ip
                  go_wp2_with fail
                  refine (refIndices _ x.funcs _ IP.out).mono ?_
                  rintro e u1 ⟨rfl, hu⟩
                  obtain rfl : u0 = u1 := hu.symm
                  generalize x.funcs.all idx = t51 at *
                  cases t51 with
                  | false =>
                    obtain rfl : R = false := HN.out
                    clear HN
                    go_wp2
                    go_ret
                    exact ⟨rfl, HS.out.bel⟩
                  | true =>
                    have HN2 : Hid (R = ((m.elems.drop (j5 + 1)).all dL && (m.datas.all dD && (m.tables.all shL && (m.mems.all shL && m.start.all idx))))) := hideR (by rw [HN.out]; simp only [Bool.true_and])
                    clear HN
                    go_wp2
                    go_roundw
                    case rel => exact ⟨j5 + 1, by omega, by go_num, HN2, HS⟩
                    case measure => simp [RowKit.intOf]; omega
              obtain rfl : n8 = j5 := by omega
              have HR := hideR (all_out (by omega) HK.out)
              clear HK
              obtain ⟨q0, q1, q2, q3, q4, q5, q6, q7, q8, q9, qb⟩ := HS.out
              clear qb
              go_wp2_with fail
              go_loopw [9] (fun i wr => ∃ j : Nat, j ≤ n9 ∧ i = .int .i64 j ∧ Hid (R = ((m.datas.drop j).all dD && (m.tables.all shL && (m.mems.all shL && m.start.all idx)))) ∧ Hid (Box w (.slice o0 n0 c0) (.slice o1 n1 c1) (.slice o2 n2 c2) (.slice o3 n3 c3) (.slice o4 n4 c4) (.slice o5 n5 c5) (.slice o6 n6 c6) (.slice o7 n7 c7) (.slice o8 n8 c8) (.slice o9 n9 c9) wr)) (fun i _ => n9 - (RowKit.intOf i).toNat)
              case atStart => exact ⟨0, by omega, rfl, HR, HS⟩
              case round =>
                obtain ⟨j6, hj, rfl, HK, HS⟩ := hrel
                by_cases hgo : j6 < n9
                · obtain ⟨q0, q1, q2, q3, q4, q5, q6, q7, q8, q9, qb⟩ := HS.out
                  clear qb q0 q1 q2 q3 q4 q5 q6 q7 q8
                  obtain ⟨b, off, cap2, hv2, hx⟩ := Row.some ((HM.out.on HS.out.bel).datas) (by omega)
                  injection hv2 with ho h2 h3
                  subst ho
                  obtain ⟨x, hxk⟩ : ∃ x, m.datas[j6]? = some x := ⟨_, List.getElem?_eq_getElem (by omega)⟩
                  have HI := hideR (hx j6 x hxk)
                  have HN : Hid (R = ((cst x.offset.op && okF (form x.offset.op) x.offset.op x.offset.a x.offset.b x.offset.n x.offset.labels (size d x.offset.body) (size d x.offset.els)) && ((m.datas.drop (j6 + 1)).all dD && (m.tables.all shL && (m.mems.all shL && m.start.all idx))))) := hideR (all_step hxk HK.out)
                  clear hx hxk h2 h3 HK
                  obtain ⟨g0, g1, g2, g3, ⟨lv, g4, a4⟩, ⟨bv, g5, a5⟩, ⟨ev, g6, a6⟩⟩ := HI.out.offset
                  have k0 : wr.cell? ⟨b, off + j6 * 8, none⟩ = _ := g0
                  have k1 : wr.cell? ⟨b, off + j6 * 8 + 1, none⟩ = _ := g1
                  have k2 : wr.cell? ⟨b, off + j6 * 8 + 2, none⟩ = _ := g2
                  have k3 : wr.cell? ⟨b, off + j6 * 8 + 3, none⟩ = _ := g3
                  have k4 : wr.cell? ⟨b, off + j6 * 8 + 4, none⟩ = _ := g4
                  have k5 : wr.cell? ⟨b, off + j6 * 8 + 5, none⟩ = _ := g5
                  have k6 : wr.cell? ⟨b, off + j6 * 8 + 6, none⟩ = _ := g6
                  clear g0 g1 g2 g3 g4 g5 g6
                  obtain ⟨lo, lc, rfl⟩ := Row.len a4
                  obtain ⟨bo, bc, rfl⟩ := At.len d bv _ a5
                  obtain ⟨eo, ec, rfl⟩ := At.len d ev _ a6
                  have A4 := hideR a4
                  clear a4 a5 a6
                  go_wp2_with fail
                  refine (refConstant x.offset.op x.offset.a x.offset.b x.offset.n x.offset.labels lo bo eo _ _ lc bc ec _ A4.out).mono ?_
                  rintro e u0 ⟨rfl, hb⟩
                  have HS := hideR (HS.out.on hb)
                  have HI := hideR (HI.out.on hb)
                  clear hb q9 k0 k1 k2 k3 k4 k5 k6
                  obtain ⟨q0, q1, q2, q3, q4, q5, q6, q7, q8, q9, qb⟩ := HS.out
                  clear qb q0 q1 q2 q3 q4 q5 q6 q7 q8
                  generalize (cst x.offset.op && okF (form x.offset.op) x.offset.op x.offset.a x.offset.b x.offset.n x.offset.labels (size d x.offset.body) (size d x.offset.els)) = t60 at *
                  cases t60 with
                  | false =>
                    obtain rfl : R = false := HN.out
                    clear HN
                    go_wp2
                    go_ret
                    exact ⟨rfl, HS.out.bel⟩
                  | true =>
                    have HN2 : Hid (R = ((m.datas.drop (j6 + 1)).all dD && (m.tables.all shL && (m.mems.all shL && m.start.all idx)))) := hideR (by rw [HN.out]; simp only [Bool.true_and])
                    clear HN
                    go_wp2
                    go_roundw
                    case rel => exact ⟨j6 + 1, by omega, by go_num, HN2, HS⟩
                    case measure => simp [RowKit.intOf]; omega
                obtain rfl : n9 = j6 := by omega
                have HR := hideR (all_out (by omega) HK.out)
                clear HK
                obtain ⟨q0, q1, q2, q3, q4, q5, q6, q7, q8, q9, qb⟩ := HS.out
                clear qb
                go_wp2_with fail
                refine (refLimits _ m.tables _ (HM.out.on HS.out.bel).tables).mono ?_
                rintro e u0 ⟨rfl, hu⟩
                obtain rfl : wr = u0 := hu.symm
                generalize m.tables.all shL = t1 at *
                cases t1 with
                | false =>
                  obtain rfl : R = false := HR.out
                  clear HR
                  go_wp2
                  go_ret
                  exact ⟨rfl, HS.out.bel⟩
                | true =>
                  go_wp2_with fail
                  refine (refLimits _ m.mems _ (HM.out.on HS.out.bel).mems).mono ?_
                  rintro e u0 ⟨rfl, hu⟩
                  obtain rfl : wr = u0 := hu.symm
                  generalize m.mems.all shL = t1 at *
                  cases t1 with
                  | false =>
                    obtain rfl : R = false := HR.out
                    clear HR
                    go_wp2
                    go_ret
                    exact ⟨rfl, HS.out.bel⟩
                  | true =>
                    go_wp2_with fail
                    refine (refIndices _ m.start _ (HM.out.on HS.out.bel).start).mono ?_
                    rintro e u0 ⟨rfl, hu⟩
                    obtain rfl : wr = u0 := hu.symm
                    have HR2 : Hid (R = m.start.all idx) := hideR (by rw [HR.out]; simp only [Bool.true_and])
                    rw [← HR2.out]
                    clear HR HR2
                    go_wp2
                    go_ret
                    exact ⟨rfl, HS.out.bel⟩
end Go.Proofs.YtloelineidlenaaGreatDoor

namespace Go.Proofs.YtloelineidlenaaGreatDoor
open Go.RowKit Rep
set_option linter.unusedVariables false

namespace Rep
theorem retI {a b : Int} (h : a = b) : Ending.returned (.int .i64 a) = .returned (.int .i64 b) := by rw [h]
def cntF (d : Nat) : List (Fun d) → Nat → Nat
  | [], c => c
  | f :: r, c => if c ≤ 65536 then cntF d r (cnt d f.body c) else c
theorem cntF_end {d : Nat} {l : List (Fun d)} {k c : Nat} (hk : ¬ (k < l.length ∧ c ≤ 65536)) : cntF d (l.drop k) c = c := by
  by_cases hl : k < l.length
  · have hc : ¬ c ≤ 65536 := fun hc => hk ⟨hl, hc⟩
    rw [List.drop_eq_getElem_cons hl]
    unfold cntF
    rw [if_neg hc]
  · rw [List.drop_of_length_le (by omega)]; rfl
theorem cntF_on {d : Nat} {l : List (Fun d)} {k c : Nat} {x : Fun d} (hx : l[k]? = some x) (hc : c ≤ 65536) : cntF d (l.drop k) c = cntF d (l.drop (k + 1)) (cnt d x.body c) := by
  have hl : k < l.length := (List.getElem?_eq_some_iff.1 hx).1
  have he : l[k] = x := (List.getElem?_eq_some_iff.1 hx).2
  rw [List.drop_eq_getElem_cons hl, he]
  conv => lhs; unfold cntF
  rw [if_pos hc]
end Rep

set_option maxHeartbeats 2000000 in
theorem refCountM (d : Nat) (v0 v1 v2 v3 v4 v5 v6 v7 v8 v9 : Value) (l : List (Fun d)) (w : World) (hAt : Row 3 (FunAt w d) v2 l) (hT : TenSlices v0 v1 v3 v4 v5 v6 v7 v8 v9) :
    Calls Tryz.prog 58 #[.agg #[v0, v1, v2, v3, v4, v5, v6, v7, v8, v9]] w fun e w' => e = .returned (.int .i64 (min (cntF d l 0) 65537 : Nat)) ∧ Below w.heap.size w w' := by
  have hlen := hAt.1
  obtain ⟨o2, c2, hv⟩ := Row.len hAt
  have HA := hideM hAt
  subst hv
  obtain ⟨⟨o0, m0, c0, rfl⟩, ⟨o1, m1, c1, rfl⟩, ⟨o3, m3, c3, rfl⟩, ⟨o4, m4, c4, rfl⟩, ⟨o5, m5, c5, rfl⟩, ⟨o6, m6, c6, rfl⟩, ⟨o7, m7, c7, rfl⟩, ⟨o8, m8, c8, rfl⟩, ⟨o9, m9, c9, rfl⟩⟩ := hT
  have HB0 := hideM (Box.start w 32 (.slice o0 m0 c0) (.slice o1 m1 c1) (.slice o2 l.length c2) (.slice o3 m3 c3) (.slice o4 m4 c4) (.slice o5 m5 c5) (.slice o6 m6 c6) (.slice o7 m7 c7) (.slice o8 m8 c8) (.slice o9 m9 c9))
  obtain ⟨R, hR⟩ : ∃ R, R = cntF d l 0 := ⟨_, rfl⟩
  rw [← hR]
  have HR : Hid (R = cntF d (l.drop 0) 0) := hR
  clear hAt hR
  generalize hn : l.length = n at *
  go_enter Tryz.func58, Tryz.ntmps58
  go_wp2_with fail
  go_loopw [3, 4] (fun u i wr => ∃ k ck : Nat, k ≤ n ∧ ck ≤ 65537 ∧ u = .int .i64 ck ∧ i = .int .i64 k ∧ Hid (R = cntF d (l.drop k) ck) ∧ Hid (Box w (.slice o0 m0 c0) (.slice o1 m1 c1) (.slice o2 n c2) (.slice o3 m3 c3) (.slice o4 m4 c4) (.slice o5 m5 c5) (.slice o6 m6 c6) (.slice o7 m7 c7) (.slice o8 m8 c8) (.slice o9 m9 c9) wr)) (fun _ i _ => n - (RowKit.intOf i).toNat)
  case atStart => exact ⟨0, 0, by omega, by omega, rfl, rfl, HR, HB0⟩
  case round =>
    obtain ⟨k, ck, hk, hck, rfl, rfl, HK, HBX⟩ := hrel
    have q2 := HBX.out.c2
    clear HB0 HR
    by_cases hgo : k < n ∧ ck ≤ 65536
    · obtain ⟨b, off, cap3, hv2, hx⟩ := Row.some (HA.out.imp fun _ _ _ _ => FunAt.on HBX.out.bel) (by omega)
      injection hv2 with ho h2 h3
      subst ho
      obtain ⟨x, hxk⟩ : ∃ x, l[k]? = some x := ⟨_, List.getElem?_eq_getElem (by omega)⟩
      obtain ⟨bv, kb, ab⟩ := (hx k x hxk).body
      have HN := hideM (HK.out.trans (cntF_on hxk hgo.2))
      have hle := cnt_le d x.body ck
      have I1 := hideM (refCount d bv x.body ck wr ab hck)
      clear hx hxk HK h2 h3 ab
      generalize cnt d x.body ck = c1 at *
      have hg1 : k < n := hgo.1
      have hg2 : ck ≤ 65536 := hgo.2
      have hd2 : decide ((ck : Int) ≤ 65536) = true := by simp; omega
      clear hgo
      go_wp2_with fail
      refine I1.out.mono ?_
      rintro e u ⟨rfl, mm, rfl⟩
      have HBN := hideM (HBX.out.on (below_drewN' wr mm))
      clear q2 kb
      go_wp2
      go_roundw
      case rel => exact ⟨k + 1, c1, by omega, by omega, rfl, by go_num, HN, HBN⟩
      case measure => simp [RowKit.intOf]; omega
    · have HE := hideM (HK.out.trans (cntF_end (by omega)))
      clear HK
      by_cases hkn : k < n
      · have hb : decide ((ck : Int) ≤ 65536) = false := by simp; omega
        go_wp2
        all_goals go_ret
        all_goals refine ⟨retI ?_, HBX.out.bel⟩
        all_goals rw [HE.out]
        all_goals first | omega | (simp; omega) | trace_state
      · go_wp2
        all_goals go_ret
        all_goals refine ⟨retI ?_, HBX.out.bel⟩
        all_goals rw [HE.out]
        all_goals first | omega | (simp; omega) | trace_state
end Go.Proofs.YtloelineidlenaaGreatDoor

namespace Go.Proofs.YtloelineidlenaaGreatDoor
open Go.RowKit Rep
set_option linter.unusedVariables false

namespace Rep
theorem hideD {p : Prop} (h : p) : Hid p := h
def lab : (d : Nat) → IL d → Bool
  | 0, _ => false
  | d + 1, l => List.any (α := Ins (IL d)) l fun x => decide (4096 < x.labels.length) || lab d x.body || lab d x.els
def dp : (d : Nat) → IL d → Nat → Bool
  | 0, _, _ => false
  | d + 1, l, at_ => (decide (0 < List.length (α := Ins (IL d)) l) && decide (64 < at_)) || List.any (α := Ins (IL d)) l fun x => dp d x.body (at_ + 1) || dp d x.els (at_ + 1)
theorem any_end {α : Type} {p : α → Bool} {l : List α} {k : Nat} {r : Bool} (hk : ¬ k < l.length) (h : r = (l.drop k).any p) : r = false := by
  rw [h, List.drop_of_length_le (by omega)]; rfl
theorem any_on {α : Type} {p : α → Bool} {l : List α} {k : Nat} {r : Bool} {x : α} (hx : l[k]? = some x) (h : r = (l.drop k).any p) : r = (p x || (l.drop (k + 1)).any p) := by
  have hl : k < l.length := (List.getElem?_eq_some_iff.1 hx).1
  have he : l[k] = x := (List.getElem?_eq_some_iff.1 hx).2
  rw [h, List.drop_eq_getElem_cons hl, he, List.any_cons]
end Rep

set_option maxHeartbeats 1000000 in
theorem refLabels0 (o : Option Addr) (cap : Nat) (w : World) :
    Calls Tryz.prog 59 #[.slice o 0 cap] w fun e w' => e = .returned (.bool false) ∧ w' = w := by
  go_enter Tryz.func59, Tryz.ntmps59
  go_wp2_with fail
  go_loopw [3] (fun i wr => i = .int .i64 0 ∧ wr = w) (fun _ _ => 0)
  case atStart => exact ⟨rfl, rfl⟩
  case round =>
    obtain ⟨rfl, rfl⟩ := hrel
    go_wp2
    go_ret
    exact ⟨rfl, rfl⟩
def LabelsSays (d : Nat) : Prop := ∀ (v : Value) (l : IL d) (w : World), At w d v l →
    Calls Tryz.prog 59 #[v] w fun e w' => e = .returned (.bool (lab d l)) ∧ w' = w

set_option maxHeartbeats 1000000 in
theorem refLabelsS (d : Nat) (IH : LabelsSays d) (v : Value) (l : List (Ins (IL d))) (w : World) (hAt : Row 7 (InsAt w (At w d)) v l) :
    Calls Tryz.prog 59 #[v] w fun e w' => e = .returned (.bool (l.any fun x => decide (4096 < x.labels.length) || lab d x.body || lab d x.els)) ∧ w' = w := by
  have hlen := hAt.1
  by_cases hz : l.length = 0
  · obtain ⟨o, cap, rfl⟩ := hAt.len
    rw [hz]
    obtain rfl : l = [] := List.length_eq_zero_iff.1 hz
    exact refLabels0 o cap w
  obtain ⟨b, off, cap, rfl, hx⟩ := hAt.some (by omega)
  obtain ⟨R, hR⟩ : ∃ R, R = l.any fun x => decide (4096 < x.labels.length) || lab d x.body || lab d x.els := ⟨_, rfl⟩
  rw [← hR]
  have HR : Hid (R = (l.drop 0).any fun x => decide (4096 < x.labels.length) || lab d x.body || lab d x.els) := hR
  have HX := hideD hx
  clear hx hAt hR
  generalize hn : l.length = n at *
  go_enter Tryz.func59, Tryz.ntmps59
  go_wp2_with fail
  go_loopw [3] (fun i wr => ∃ k : Nat, k ≤ n ∧ i = .int .i64 k ∧ R = ((l.drop k).any fun x => decide (4096 < x.labels.length) || lab d x.body || lab d x.els) ∧ wr = w) (fun i _ => n - (RowKit.intOf i).toNat)
  case atStart => exact ⟨0, by omega, rfl, HR.out, rfl⟩
  case round =>
    obtain ⟨k, hk, rfl, hrr, rfl⟩ := hrel
    have HK := hideD hrr
    clear hrr
    by_cases hgo : k < n
    · obtain ⟨x, hxk⟩ : ∃ x, l[k]? = some x := ⟨_, List.getElem?_eq_getElem (by omega)⟩
      have hI := HX.out k x hxk
      obtain ⟨vl, cl, al⟩ := hI.labels
      obtain ⟨ol, capl, rfl⟩ := al.len
      obtain ⟨vb, cb, ab⟩ := hI.body
      obtain ⟨ve, ce, ae⟩ := hI.els
      have HN := any_on hxk HK.out
      have i1 := hideD (IH vb x.body wr ab)
      have i2 := hideD (IH ve x.els wr ae)
      have hll := al.1
      clear hI hxk ab ae HK al
      generalize x.labels.length = nl at *
      by_cases h1 : 4096 < nl
      · have hfin : R = true := by rw [HN, decide_eq_true h1]; rfl
        clear HN
        go_wp2
        go_ret
        exact ⟨rfl, rfl⟩
      · rw [decide_eq_false h1, Bool.false_or] at HN
        generalize lab d x.body = r1 at *
        generalize lab d x.els = r2 at *
        have HN' := hideD HN
        clear HN
        go_wp2_with fail
        refine i1.out.mono ?_
        rintro e w1 ⟨rfl, rfl⟩
        cases r1
        · go_wp2_with fail
          refine i2.out.mono ?_
          rintro e w1 ⟨rfl, rfl⟩
          cases r2
          · go_wp2
            go_roundw
            case rel => exact ⟨k + 1, by omega, by go_num, by rw [HN'.out]; rfl, trivial⟩
            case measure => simp [RowKit.intOf]; omega
          · have hfin : R = true := by rw [HN'.out]; rfl
            go_wp2
            go_ret
            exact ⟨by rw [hfin]; rfl, rfl⟩
        · have hfin : R = true := by rw [HN'.out]; rfl
          go_wp2
          go_ret
          exact ⟨by rw [hfin]; rfl, rfl⟩
    · have HE := any_end (by omega) HK.out
      clear HK
      go_wp2
      go_ret
      exact ⟨by rw [HE]; rfl, rfl⟩
theorem refLabels : ∀ (d : Nat), LabelsSays d
  | 0 => fun v l w ⟨o, cap, hv⟩ => by
    subst hv
    exact refLabels0 o cap w
  | d + 1 => fun v l w hAt => refLabelsS d (refLabels d) v l w hAt

set_option maxHeartbeats 1000000 in
theorem refDeep0 (o : Option Addr) (cap at_ : Nat) (w : World) :
    Calls Tryz.prog 60 #[.slice o 0 cap, .int .i64 at_] w fun e w' => e = .returned (.bool false) ∧ w' = w := by
  go_enter Tryz.func60, Tryz.ntmps60
  go_wp2_with fail
  go_loopw [5] (fun i wr => i = .int .i64 0 ∧ wr = w) (fun _ _ => 0)
  case atStart => exact ⟨rfl, rfl⟩
  case round =>
    obtain ⟨rfl, rfl⟩ := hrel
    go_wp2
    go_ret
    exact ⟨rfl, rfl⟩
def DeepSays (d : Nat) : Prop := ∀ (v : Value) (l : IL d) (at_ : Nat) (w : World), At w d v l → at_ ≤ 65 →
    Calls Tryz.prog 60 #[v, .int .i64 at_] w fun e w' => e = .returned (.bool (dp d l at_)) ∧ w' = w

set_option maxHeartbeats 1000000 in
theorem refDeepS (d : Nat) (IH : DeepSays d) (v : Value) (l : List (Ins (IL d))) (at_ : Nat) (w : World) (hAt : Row 7 (InsAt w (At w d)) v l) (ha : at_ ≤ 65) :
    Calls Tryz.prog 60 #[v, .int .i64 at_] w fun e w' => e = .returned (.bool ((decide (0 < l.length) && decide (64 < at_)) || l.any fun x => dp d x.body (at_ + 1) || dp d x.els (at_ + 1))) ∧ w' = w := by
  have hlen := hAt.1
  by_cases hz : l.length = 0
  · obtain ⟨o, cap, rfl⟩ := hAt.len
    rw [hz]
    obtain rfl : l = [] := List.length_eq_zero_iff.1 hz
    exact refDeep0 o cap at_ w
  obtain ⟨b, off, cap, rfl, hx⟩ := hAt.some (by omega)
  have hpos : decide (0 < l.length) = true := by simp; omega
  rw [hpos, Bool.true_and]
  by_cases h64 : 64 < at_
  · rw [decide_eq_true h64, Bool.true_or]
    clear hx hAt hpos
    generalize l.length = n at *
    go_enter Tryz.func60, Tryz.ntmps60
    go_wp2
    go_ret
    exact ⟨rfl, rfl⟩
  rw [decide_eq_false h64, Bool.false_or]
  obtain ⟨R, hR⟩ : ∃ R, R = l.any fun x => dp d x.body (at_ + 1) || dp d x.els (at_ + 1) := ⟨_, rfl⟩
  rw [← hR]
  have HR : Hid (R = (l.drop 0).any fun x => dp d x.body (at_ + 1) || dp d x.els (at_ + 1)) := hR
  have HX := hideD hx
  clear hx hAt hR hpos
  have e1 : ((at_ + 1 : Nat) : Int) = (at_ : Int) + 1 := by omega
  generalize hn : l.length = n at *
  go_enter Tryz.func60, Tryz.ntmps60
  go_wp2_with fail
  go_loopw [5] (fun i wr => ∃ k : Nat, k ≤ n ∧ i = .int .i64 k ∧ R = ((l.drop k).any fun x => dp d x.body (at_ + 1) || dp d x.els (at_ + 1)) ∧ wr = w) (fun i _ => n - (RowKit.intOf i).toNat)
  case atStart => exact ⟨0, by omega, rfl, HR.out, rfl⟩
  case round =>
    obtain ⟨k, hk, rfl, hrr, rfl⟩ := hrel
    have HK := hideD hrr
    clear hrr
    by_cases hgo : k < n
    · obtain ⟨x, hxk⟩ : ∃ x, l[k]? = some x := ⟨_, List.getElem?_eq_getElem (by omega)⟩
      have hI := HX.out k x hxk
      obtain ⟨vb, cb, ab⟩ := hI.body
      obtain ⟨ve, ce, ae⟩ := hI.els
      have HN := any_on hxk HK.out
      have j1 := IH vb x.body (at_ + 1) wr ab (by omega)
      have j2 := IH ve x.els (at_ + 1) wr ae (by omega)
      rw [e1] at j1 j2
      have i1 := hideD j1
      have i2 := hideD j2
      clear hI hxk ab ae HK j1 j2 e1
      generalize dp d x.body (at_ + 1) = r1 at *
      generalize dp d x.els (at_ + 1) = r2 at *
      have HN' := hideD HN
      clear HN
      go_wp2_with fail
      refine i1.out.mono ?_
      rintro e w1 ⟨rfl, rfl⟩
      cases r1
      · go_wp2_with fail
        refine i2.out.mono ?_
        rintro e w1 ⟨rfl, rfl⟩
        cases r2
        · go_wp2
          go_roundw
          case rel => exact ⟨k + 1, by omega, by go_num, by rw [HN'.out]; rfl, trivial⟩
          case measure => simp [RowKit.intOf]; omega
        · have hfin : R = true := by rw [HN'.out]; rfl
          go_wp2
          go_ret
          exact ⟨by rw [hfin]; rfl, rfl⟩
      · have hfin : R = true := by rw [HN'.out]; rfl
        go_wp2
        go_ret
        exact ⟨by rw [hfin]; rfl, rfl⟩
    · have HE := any_end (by omega) HK.out
      clear HK
      go_wp2
      go_ret
      exact ⟨by rw [HE]; rfl, rfl⟩
theorem refDeep : ∀ (d : Nat), DeepSays d
  | 0 => fun v l at_ w ⟨o, cap, hv⟩ _ => by
    subst hv
    exact refDeep0 o cap at_ w
  | d + 1 => fun v l at_ w hAt ha => refDeepS d (refDeep d) v l at_ w hAt ha
end Go.Proofs.YtloelineidlenaaGreatDoor

namespace Go.Proofs.YtloelineidlenaaGreatDoor
open Go.RowKit Rep
namespace Rep

theorem cntL_stop {α : Type} (f : α → Nat → Nat) (l : List (Ins α)) : cntL f l 65537 = 65537 := by cases l <;> rfl
theorem cnt_stop : ∀ (d : Nat) (l : IL d), cnt d l 65537 = 65537
  | 0, _ => rfl
  | d + 1, l => cntL_stop (cnt d) l
theorem ite_some {p : Prop} [Decidable p] {α : Type} {a : α} {β : Type} (f : α → Option β) : (if p then some a else none).bind f = if p then f a else none := by split <;> rfl
theorem goL_cnt {α : Type} (f : α → Nat → Nat) (hf : ∀ x, f x 65537 = 65537) (hb : ∀ x c, f x c ≤ max c 65537) (sub : α → Nat → Option Nat) (hs : ∀ y c, c ≤ 65536 → sub y c = if f y c ≤ 65536 then some (f y c) else none)
    (st : Nat → Ins α → Option Nat) (hst : ∀ c x, st c x = if c + 1 ≤ 65536 then some (c + 1) else none) :
    ∀ (l : List (Ins α)) (c : Nat), c ≤ 65536 → goL st sub l c = if cntL f l c ≤ 65536 then some (cntL f l c) else none
  | [], c, hc => by
    show some c = if c ≤ 65536 then some c else none
    rw [if_pos hc]
  | x :: r, c, hc => by
    have e : cntL f (x :: r) c = cntL f r (f x.els (f x.body (c + 1))) := if_pos hc
    show (st c x).bind _ = _
    rw [hst, e, ite_some]
    by_cases h1 : c + 1 ≤ 65536
    · rw [if_pos h1, hs _ _ h1, ite_some]
      by_cases h2 : f x.body (c + 1) ≤ 65536
      · rw [if_pos h2, hs _ _ h2, ite_some]
        by_cases h3 : f x.els (f x.body (c + 1)) ≤ 65536
        · rw [if_pos h3]
          exact goL_cnt f hf hb sub hs st hst r _ h3
        · have h4 : f x.els (f x.body (c + 1)) = 65537 := by have := hb x.els (f x.body (c + 1)); omega
          rw [if_neg h3, h4, cntL_stop]; rfl
      · have h4 : f x.body (c + 1) = 65537 := by have := hb x.body (c + 1); omega
        rw [if_neg h2, h4, hf, cntL_stop]; rfl
    · have h4 : c + 1 = 65537 := by omega
      rw [if_neg h1, h4, hf, hf, cntL_stop]; rfl
theorem goI_cnt : ∀ (d : Nat) (l : IL d) (k c : Nat), c ≤ 65536 → goI stepCount d l k c = if cnt d l c ≤ 65536 then some (cnt d l c) else none
  | 0, _, _, c, hc => by
    show some c = if c ≤ 65536 then some c else none
    rw [if_pos hc]
  | d + 1, l, k, c, hc => goL_cnt (cnt d) (cnt_stop d) (cnt_le d) _ (fun y c hc => goI_cnt d y (k + 1) c hc) _ (fun _ _ => rfl) l c hc
theorem goF_cnt (d : Nat) : ∀ (l : List (Fun d)) (c : Nat), c ≤ 65536 → goF stepCount d l c = if cntF d l c ≤ 65536 then some (cntF d l c) else none
  | [], c, hc => by
    show some c = if c ≤ 65536 then some c else none
    rw [if_pos hc]
  | x :: r, c, hc => by
    have e : cntF d (x :: r) c = cntF d r (cnt d x.body c) := if_pos hc
    show (goI stepCount d x.body 0 c).bind _ = _
    rw [goI_cnt d _ _ _ hc, e, ite_some]
    by_cases h1 : cnt d x.body c ≤ 65536
    · rw [if_pos h1]; exact goF_cnt d r _ h1
    · have h4 : cnt d x.body c = 65537 := by have := cnt_le d x.body c; omega
      rw [if_neg h1, h4]
      have : cntF d r 65537 = 65537 := by cases r <;> rfl
      rw [this]; rfl
theorem cntF_le (d : Nat) : ∀ (l : List (Fun d)) (c : Nat), cntF d l c ≤ max c 65537
  | [], c => by show c ≤ _; omega
  | x :: r, c => by
    unfold cntF
    split
    · have h1 := cnt_le d x.body c
      have h2 := cntF_le d r (cnt d x.body c)
      omega
    · omega
def allL {α : Type} (p : Ins α → Bool) (sub : α → Bool) (l : List (Ins α)) : Bool := l.all fun x => p x && (sub x.body && sub x.els)
def allI (p : Sn → Nat → Bool) : (d : Nat) → IL d → Nat → Bool
  | 0, _, _ => true
  | d + 1, l, k => allL (fun x => p (sn x) k) (fun y => allI p d y (k + 1)) l
theorem goL_all {α : Type} (p : Ins α → Bool) (sub : α → Bool) (st : Unit → Ins α → Option Unit) (hst : ∀ u x, st u x = if p x = true then some () else none) (su : α → Unit → Option Unit) (hsu : ∀ y u, su y u = if sub y = true then some () else none) :
    ∀ (l : List (Ins α)) (u : Unit), goL st su l u = if allL p sub l = true then some () else none
  | [], _ => rfl
  | x :: r, u => by
    show (st u x).bind _ = _
    have e : allL p sub (x :: r) = ((p x && (sub x.body && sub x.els)) && allL p sub r) := rfl
    rw [hst, e, ite_some]
    cases p x
    · rfl
    · rw [if_pos rfl, hsu, ite_some]
      cases sub x.body
      · rfl
      · rw [if_pos rfl, hsu, ite_some]
        cases sub x.els
        · rfl
        · rw [if_pos rfl, goL_all p sub st hst su hsu r]; rfl
theorem goI_all (p : Sn → Nat → Bool) (st : Unit → Sn → Nat → Option Unit) (hst : ∀ u x k, st u x k = if p x k = true then some () else none) : ∀ (d : Nat) (l : IL d) (k : Nat) (u : Unit), goI st d l k u = if allI p d l k = true then some () else none
  | 0, _, _, _ => rfl
  | d + 1, l, k, u => goL_all (fun x => p (sn x) k) (fun y => allI p d y (k + 1)) _ (fun u x => hst u (sn x) k) _ (fun y u => goI_all p st hst d y (k + 1) u) l u
theorem goF_all (p : Sn → Nat → Bool) (st : Unit → Sn → Nat → Option Unit) (hst : ∀ u x k, st u x k = if p x k = true then some () else none) (d : Nat) : ∀ (l : List (Fun d)) (u : Unit), goF st d l u = if (l.all fun f => allI p d f.body 0) = true then some () else none
  | [], _ => rfl
  | x :: r, u => by
    show (goI st d x.body 0 u).bind _ = _
    rw [goI_all p st hst, ite_some, List.all_cons]
    cases allI p d x.body 0
    · rfl
    · rw [if_pos rfl, goF_all p st hst d r]; rfl
theorem okL_all : ∀ (d : Nat) (l : IL d) (k : Nat), allI (fun x _ => okS x) d l k = okL d l
  | 0, _, _ => rfl
  | d + 1, l, k => by
    show allL _ _ l = List.all (α := Ins (IL d)) l _
    unfold allL
    congr 1
    funext x
    show (okS (sn x) && (allI (fun x _ => okS x) d x.body (k + 1) && allI (fun x _ => okS x) d x.els (k + 1))) = _
    rw [okL_all d x.body (k + 1), okL_all d x.els (k + 1)]
theorem any_not_all {α : Type} {p q : α → Bool} (h : ∀ x, p x = !q x) : ∀ l : List α, l.any p = !l.all q
  | [] => rfl
  | x :: r => by rw [List.any_cons, List.all_cons, h x, any_not_all h r, Bool.not_and]
theorem few_not (n : Nat) : decide (4096 < n) = !few (n : Int) := by
  unfold few
  by_cases h : 4096 < n
  · rw [decide_eq_true h, decide_eq_false (by omega)]; rfl
  · rw [decide_eq_false h, decide_eq_true (by omega)]; rfl
theorem lab_all : ∀ (d : Nat) (l : IL d) (k : Nat), lab d l = !allI (fun x _ => few x.labels.length) d l k
  | 0, _, _ => rfl
  | d + 1, l, k => by
    refine any_not_all (fun x => ?_) l
    show (decide (4096 < x.labels.length) || lab d x.body || lab d x.els) = !(few x.labels.length && (allI _ d x.body (k + 1) && allI _ d x.els (k + 1)))
    rw [few_not, lab_all d x.body (k + 1), lab_all d x.els (k + 1), Bool.not_and, Bool.not_and, Bool.or_assoc]
theorem dp_all : ∀ (d : Nat) (l : IL d) (k : Nat), dp d l k = !allI (fun _ k => decide (k ≤ 64)) d l k
  | 0, _, _ => rfl
  | d + 1, l, k => by
    show ((decide (0 < List.length (α := Ins (IL d)) l) && decide (64 < k)) || List.any (α := Ins (IL d)) l fun x => dp d x.body (k + 1) || dp d x.els (k + 1)) = !List.all (α := Ins (IL d)) l _
    have hd : ∀ x : Ins (IL d), (dp d x.body (k + 1) || dp d x.els (k + 1)) = !(allI (fun _ k => decide (k ≤ 64)) d x.body (k + 1) && allI (fun _ k => decide (k ≤ 64)) d x.els (k + 1)) := fun x => by
      rw [dp_all d x.body (k + 1), dp_all d x.els (k + 1), Bool.not_and]
    by_cases hk : k ≤ 64
    · rw [decide_eq_false (by omega : ¬ 64 < k), Bool.and_false, Bool.false_or]
      refine any_not_all (fun x => ?_) l
      show _ = !(decide (k ≤ 64) && _)
      rw [decide_eq_true hk, Bool.true_and]
      exact hd x
    · rw [decide_eq_true (by omega : 64 < k), Bool.and_true]
      cases l with
      | nil => rfl
      | cons x r =>
        have e : List.all (α := Ins (IL d)) (x :: r) (fun x => decide (k ≤ 64) && (allI (fun _ k => decide (k ≤ 64)) d x.body (k + 1) && allI (fun _ k => decide (k ≤ 64)) d x.els (k + 1))) = false := by
          rw [List.all_cons, decide_eq_false hk, Bool.false_and, Bool.false_and]
        have e0 : decide (0 < List.length (α := Ins (IL d)) (x :: r)) = true := by simp
        rw [e0, Bool.true_or]
        exact (congrArg (fun b => !b) e).symm
end Rep
end Go.Proofs.YtloelineidlenaaGreatDoor

namespace Go.Proofs.YtloelineidlenaaGreatDoor
open Go.RowKit Rep
set_option linter.unusedVariables false
namespace Rep
theorem nmD_nm (s : ByteArray) : nmD s = nm s := rfl
theorem shD_eq {d : Nat} (m : Mod d) : shD m = (shM m && m.funcs.all fun f => okL d f.body) := by
  rw [Bool.eq_iff_iff]
  unfold shD shM
  simp only [Bool.and_eq_true, List.all_eq_true, dT, dI, dF, dG, dE, dL, dD, dC, shT, shI, shF, shL, shG, shE, cstOk, okS, sn, nmD_nm, List.mem_append, List.mem_singleton, forall_eq, decide_eq_true_iff, and_true]
  constructor
  · rintro ⟨h1, h2, h3, h4, h5, h6, h7, h8, h9, h10⟩
    refine ⟨⟨h1, fun x hx => ?_, fun x hx => ?_, fun x hx => ?_, h4, fun x hx => ?_, h10, h6, h7⟩, fun x hx => (h3 x hx).2.2⟩
    · obtain ⟨a, b, c⟩ := h2 x hx; exact ⟨⟨b, c⟩, a⟩
    · obtain ⟨a, b, c⟩ := h3 x hx; exact ⟨a, b⟩
    · rcases hx with hx | hx
      · exact h8 x hx
      · exact h9 x hx
    · obtain ⟨a, b, c⟩ := h5 x hx; exact ⟨a, b, c⟩
  · rintro ⟨⟨h1, h2, h3, h4, h5, h6, h7, h8, h9⟩, h10⟩
    refine ⟨h1, fun x hx => ?_, fun x hx => ?_, h5, fun x hx => ?_, h8, h9, fun x hx => h4 x (.inl hx), fun x hx => h4 x (.inr hx), h7⟩
    · obtain ⟨⟨a, b⟩, c⟩ := h2 x hx; exact ⟨c, a, b⟩
    · obtain ⟨a, b⟩ := h3 x hx; exact ⟨a, b, h10 x hx⟩
    · obtain ⟨a, b, c⟩ := h6 x hx; exact ⟨a, b, c⟩
def chD {d : Nat} (m : Mod d) : Int :=
  if fewM m = false then 3 else if 65536 < cntF d m.funcs 0 then 3 else if (m.funcs.any fun f => lab d f.body) = true then 3 else if (m.funcs.any fun f => dp d f.body 0) = true then 4 else if shD m = false then 30 else 0
theorem chD_eq {d : Nat} (m : Mod d) : chD m = chk m := by
  unfold chD chk
  rw [goF_cnt d m.funcs 0 (by omega), goF_all (fun x _ => few x.labels.length) stepLabels (fun _ _ _ => rfl), goF_all (fun _ k => decide (k ≤ 64)) stepDepth (fun _ _ k => by unfold stepDepth; by_cases h : k ≤ 64 <;> simp [h]), goF_all (fun x _ => okS x) stepForm (fun _ _ _ => rfl),
    any_not_all (fun f : Fun d => lab_all d f.body 0), any_not_all (fun f : Fun d => dp_all d f.body 0), shD_eq]
  have e : (m.funcs.all fun f => allI (fun x _ => okS x) d f.body 0) = m.funcs.all fun f => okL d f.body := by
    congr 1
    funext f
    exact okL_all d f.body 0
  rw [e]
  cases fewM m
  · rfl
  · simp only [Bool.true_eq_false, if_false, if_true]
    by_cases hc : 65536 < cntF d m.funcs 0
    · have e2 : (if cntF d m.funcs 0 ≤ 65536 then some (cntF d m.funcs 0) else none) = none := if_neg (by omega)
      rw [if_pos hc, e2]
    · have e2 : (if cntF d m.funcs 0 ≤ 65536 then some (cntF d m.funcs 0) else none) = some (cntF d m.funcs 0) := if_pos (by omega)
      rw [if_neg hc, e2]
      cases (m.funcs.all fun f => allI (fun x _ => few x.labels.length) d f.body 0)
      · rfl
      · cases (m.funcs.all fun f => allI (fun _ k => decide (k ≤ 64)) d f.body 0)
        · rfl
        · cases shM m
          · rfl
          · cases (m.funcs.all fun f => okL d f.body)
            · rfl
            · rfl
theorem any_at {α : Type} {p : α → Bool} {l : List α} {j : Nat} {x : α} {R : Bool} (hx : l[j]? = some x) (h : R = (l.drop j).any p) : R = (p x || (l.drop (j + 1)).any p) := by
  have hl : j < l.length := (List.getElem?_eq_some_iff.1 hx).1
  have he : l[j] = x := (List.getElem?_eq_some_iff.1 hx).2
  rw [h, List.drop_eq_getElem_cons hl, he]; rfl
theorem any_past {α : Type} {p : α → Bool} {l : List α} {j : Nat} {R : Bool} (hj : l.length ≤ j) (h : R = (l.drop j).any p) : R = false := by
  rw [h, List.drop_of_length_le hj]; rfl
end Rep
set_option maxRecDepth 100000 in
set_option maxHeartbeats 4000000 in
theorem refCheck (d : Nat) (v0 v1 v2 v3 v4 v5 v6 v7 v8 v9 : Value) (m : Mod d) (w : World) (hM : ModAt w d v0 v1 v2 v3 v4 v5 v6 v7 v8 v9 m) (hX : Texts m) (hsz : ∀ x ∈ m.datas, x.bytes.size ≤ 4611686018427387904) :
    Calls Tryz.prog 21 #[.agg #[v0, v1, v2, v3, v4, v5, v6, v7, v8, v9]] w fun e w' => e = .returned (.int .i64 (chk m)) ∧ Below w.heap.size w w' := by
  have l2 := hM.funcs.1
  have HM := hideR hM
  have HMany := hideR fun (w' : World) (h : Below w.heap.size w w') => refMany d v0 v1 v2 v3 v4 v5 v6 v7 v8 v9 m w' (hM.on h) hsz
  have HCnt := hideR fun (w' : World) (h : Below w.heap.size w w') => refCountM d v0 v1 v2 v3 v4 v5 v6 v7 v8 v9 m.funcs w' (hM.on h).funcs hM.ten
  have HShp := hideR fun (w' : World) (h : Below w.heap.size w w') => refShape d v0 v1 v2 v3 v4 v5 v6 v7 v8 v9 m w' (hM.on h) hX
  have HS := hideR (Box.start w 32 v0 v1 v2 v3 v4 v5 v6 v7 v8 v9)
  obtain ⟨R, hR⟩ : ∃ R, R = chD m := ⟨_, rfl⟩
  rw [← chD_eq, ← hR]
  unfold chD at hR
  have HR := hideR hR
  obtain ⟨o2, c2, rfl⟩ := Row.len hM.funcs
  obtain ⟨⟨o0, n0, c0, rfl⟩, ⟨o1, n1, c1, rfl⟩, ⟨o3, n3, c3, rfl⟩, ⟨o4, n4, c4, rfl⟩, ⟨o5, n5, c5, rfl⟩, ⟨o6, n6, c6, rfl⟩, ⟨o7, n7, c7, rfl⟩, ⟨o8, n8, c8, rfl⟩, ⟨o9, n9, c9, rfl⟩⟩ := hM.ten
  clear hM hX hsz hR
  generalize hn2 : m.funcs.length = n2 at *
  generalize fewM m = r1 at *
  generalize cntF d m.funcs 0 = r2 at *
  generalize shD m = r5 at *
  obtain ⟨r3, hr3⟩ : ∃ r3, r3 = m.funcs.any fun f => lab d f.body := ⟨_, rfl⟩
  obtain ⟨r4, hr4⟩ : ∃ r4, r4 = m.funcs.any fun f => dp d f.body 0 := ⟨_, rfl⟩
  rw [← hr3, ← hr4] at HR
  have HR3 : Hid (r3 = (m.funcs.drop 0).any fun f => lab d f.body) := hr3
  have HR4 : Hid (r4 = (m.funcs.drop 0).any fun f => dp d f.body 0) := hr4
  clear hr3 hr4
  go_enter Tryz.func21, Tryz.ntmps21
  go_upto_region 1 with fail
  obtain ⟨wb, hwb⟩ : ∃ wb, wb = w.alloc (.cells #[.slice o0 n0 c0, .slice o1 n1 c1, .slice o2 n2 c2, .slice o3 n3 c3, .slice o4 n4 c4, .slice o5 n5 c5, .slice o6 n6 c6, .slice o7 n7 c7, .slice o8 n8 c8, .slice o9 n9 c9] 32) := ⟨_, rfl⟩
  rw [← hwb] at HS ⊢
  clear hwb
  obtain ⟨q0, q1, q2, q3, q4, q5, q6, q7, q8, q9, qb⟩ := HS.out
  clear qb
  go_wp2_with fail
  refine (HMany.out _ HS.out.bel).mono ?_
  rintro e u1 ⟨rfl, hb⟩
  have HS := hideR (HS.out.on hb)
  clear hb q0 q1 q2 q3 q4 q5 q6 q7 q8 q9 HMany
  cases r1 with
  | false =>
    obtain rfl : R = 3 := HR.out
    clear HR
    go_wp2
    go_ret
    exact ⟨rfl, HS.out.bel⟩
  | true =>
  obtain ⟨q0, q1, q2, q3, q4, q5, q6, q7, q8, q9, qb⟩ := HS.out
  clear qb
  go_wp2_with fail
  refine (HCnt.out _ HS.out.bel).mono ?_
  rintro e u2 ⟨rfl, hb⟩
  have HS := hideR (HS.out.on hb)
  clear hb q0 q1 q2 q3 q4 q5 q6 q7 q8 q9 HCnt
  obtain ⟨r2', hr2'⟩ : ∃ r2' : Nat, r2' = min r2 65537 := ⟨_, rfl⟩
  rw [← hr2']
  have hle : r2' ≤ 65537 := by omega
  by_cases hc : 65536 < r2
  · have hc' : 65536 < r2' := by omega
    obtain rfl : R = 3 := by rw [HR.out, if_neg (by simp), if_pos hc]
    clear HR
    go_wp2
    go_ret
    exact ⟨rfl, HS.out.bel⟩
  have hc' : ¬ 65536 < r2' := by omega
  have HRa : Hid (R = if r3 = true then 3 else if r4 = true then 4 else if r5 = false then 30 else 0) := hideR (by rw [HR.out, if_neg (by simp), if_neg hc])
  clear HR hr2'
  obtain ⟨q0, q1, q2, q3, q4, q5, q6, q7, q8, q9, qb⟩ := HS.out
  clear qb q0 q1 q3 q4 q5 q6 q7 q8 q9
  go_wp2_with fail
  clear q2
  go_loopw [3] (fun i wr => ∃ j : Nat, j ≤ n2 ∧ i = .int .i64 j ∧ Hid (r3 = (m.funcs.drop j).any fun f => lab d f.body) ∧ wr = u2) (fun i _ => n2 - (RowKit.intOf i).toNat)
  case atStart => exact ⟨0, by omega, rfl, HR3, rfl⟩
  case round =>
    obtain ⟨j, hj, rfl, HK, rfl⟩ := hrel
    obtain ⟨q0, q1, q2, q3, q4, q5, q6, q7, q8, q9, qb⟩ := HS.out
    clear qb q0 q1 q3 q4 q5 q6 q7 q8 q9
    by_cases hgo : j < n2
    · obtain ⟨b, off, cap2, hv2, hx⟩ := Row.some ((HM.out.on HS.out.bel).funcs) (by omega)
      injection hv2 with ho h2 h3
      subst ho
      obtain ⟨x, hxk⟩ : ∃ x, m.funcs[j]? = some x := ⟨_, List.getElem?_eq_getElem (by omega)⟩
      have hI := hx j x hxk
      obtain ⟨vb, k2, ab⟩ := hI.body
      obtain ⟨ob, cb, rfl⟩ := At.len d vb _ ab
      have AB := hideR ab
      have HN := hideR (any_at hxk HK.out)
      clear hx hxk h2 h3 HK hI ab
      go_wp2_with fail
      refine (refLabels d _ x.body _ AB.out).mono ?_
      rintro e u ⟨rfl, hu⟩
      obtain rfl : wr = u := hu.symm
      generalize lab d x.body = t at *
      cases t with
      | true =>
        obtain rfl : r3 = true := HN.out
        obtain rfl : R = 3 := HRa.out
        clear HRa HN
        go_wp2
        go_ret
        exact ⟨rfl, HS.out.bel⟩
      | false =>
        have HN2 : Hid (r3 = (m.funcs.drop (j + 1)).any fun f => lab d f.body) := hideR (by rw [HN.out, Bool.false_or])
        clear HN
        go_wp2
        go_roundw
        case rel => exact ⟨j + 1, by omega, by go_num, HN2, trivial⟩
        case measure => simp [RowKit.intOf]; omega
    obtain rfl : n2 = j := by omega
    obtain rfl : r3 = false := any_past (by omega) HK.out
    have HRb : Hid (R = if r4 = true then 4 else if r5 = false then 30 else 0) := HRa
    clear HRa HK
    go_wp2_with fail
    clear q2
    obtain ⟨u2, rfl⟩ : ∃ u2, u2 = wr := ⟨_, rfl⟩
    go_loopw [4] (fun i wr => ∃ j : Nat, j ≤ n2 ∧ i = .int .i64 j ∧ Hid (r4 = (m.funcs.drop j).any fun f => dp d f.body 0) ∧ wr = u2) (fun i _ => n2 - (RowKit.intOf i).toNat)
    case atStart => exact ⟨0, by omega, rfl, HR4, rfl⟩
    case round =>
      obtain ⟨j, hj, rfl, HK, rfl⟩ := hrel
      by_cases hgo : j < n2
      · obtain ⟨q0, q1, q2, q3, q4, q5, q6, q7, q8, q9, qb⟩ := HS.out
        clear qb q0 q1 q3 q4 q5 q6 q7 q8 q9
        obtain ⟨b, off, cap2, hv2, hx⟩ := Row.some ((HM.out.on HS.out.bel).funcs) (by omega)
        injection hv2 with ho h2 h3
        subst ho
        obtain ⟨x, hxk⟩ : ∃ x, m.funcs[j]? = some x := ⟨_, List.getElem?_eq_getElem (by omega)⟩
        have hI := hx j x hxk
        obtain ⟨vb, k2, ab⟩ := hI.body
        obtain ⟨ob, cb, rfl⟩ := At.len d vb _ ab
        have AB := hideR ab
        have HN := hideR (any_at hxk HK.out)
        clear hx hxk h2 h3 HK hI ab
        go_wp2_with fail
        refine (refDeep d _ x.body 0 _ AB.out (by omega)).mono ?_
        rintro e u ⟨rfl, hu⟩
        obtain rfl : wr = u := hu.symm
        generalize dp d x.body 0 = t at *
        cases t with
        | true =>
          obtain rfl : r4 = true := HN.out
          obtain rfl : R = 4 := HRb.out
          clear HRb HN
          go_wp2
          go_ret
          exact ⟨rfl, HS.out.bel⟩
        | false =>
          have HN2 : Hid (r4 = (m.funcs.drop (j + 1)).any fun f => dp d f.body 0) := hideR (by rw [HN.out, Bool.false_or])
          clear HN
          go_wp2
          go_roundw
          case rel => exact ⟨j + 1, by omega, by go_num, HN2, trivial⟩
          case measure => simp [RowKit.intOf]; omega
      obtain rfl : n2 = j := by omega
      obtain rfl : r4 = false := any_past (by omega) HK.out
      have HRc : Hid (R = if r5 = false then 30 else 0) := HRb
      clear HRb HK
      obtain ⟨q0, q1, q2, q3, q4, q5, q6, q7, q8, q9, qb⟩ := HS.out
      clear qb
      go_wp2_with fail
      refine (HShp.out _ HS.out.bel).mono ?_
      rintro e u5 ⟨rfl, hb⟩
      have HS := hideR (HS.out.on hb)
      clear hb q0 q1 q2 q3 q4 q5 q6 q7 q8 q9 HShp
      cases r5 with
      | false =>
        obtain rfl : R = 30 := HRc.out
        clear HRc
        go_wp2
        go_ret
        exact ⟨rfl, HS.out.bel⟩
      | true =>
        obtain rfl : R = 0 := HRc.out
        clear HRc
        go_wp2
        go_ret
        exact ⟨rfl, HS.out.bel⟩
end Go.Proofs.YtloelineidlenaaGreatDoor

namespace Go.Proofs.YtloelineidlenaaGreatDoor
open Go.RowKit Rep Enc Go.Lib
set_option linter.unusedVariables false
set_option maxRecDepth 100000 in
set_option maxHeartbeats 4000000 in
theorem dBody (d : Nat) (lv : Value) (l : IL d) (w : World) (hA : At w d lv l) (hR : chk (bodyM l) = 0 → Rg d l) :
    Calls Tryz.prog 14 #[lv] w fun e w' => e = .returned (bodA l) ∧ Below w.heap.size w w' := by
  have hb := new_on' w (.cells #[.int .i64 0, .slice none 0 0, lv] 44)
  have hx := Bx.new (w := w) (b := w.heap.size) (t := 44) (cs := #[.int .i64 0, .slice none 0 0, lv]) rfl
  have HC := hideR (refCheck d _ _ _ _ _ _ _ _ _ _ (bodyM l) _ (bodyM_at hA hb hx) ⟨fun x hx => by simp [bodyM] at hx, fun x hx => by simp [bodyM] at hx⟩ (fun x hx => by simp [bodyM] at hx))
  have HB := hideR hb
  have HA := hideR hA
  obtain ⟨oL, kL, rfl⟩ := At.len d _ _ hA
  have HR := hideR hR
  unfold bodA
  clear hb hx hA hR
  generalize size d l = nl at *
  by_cases h0 : chk (bodyM l) = 0
  · rw [if_pos h0]
    have hR1 := HR.out h0
    rw [h0] at HC
    obtain ⟨id, hid⟩ : ∃ id, bytesI d l ++ [11] = id := ⟨_, rfl⟩
    rw [hid]
    obtain ⟨S, E, hSE⟩ : ∃ S E, told id = .tuple #[.string S, .int .i64 E] := ⟨_, _, told_eq _⟩
    rw [hSE]
    have HSE := hideR hSE
    clear hSE
    have HID := hideR hid
    have HR1 := hideR hR1
    clear hid hR1 HR
    go_enter Tryz.func14, Tryz.ntmps14
    go_wp2_with fail
    refine HC.out.mono ?_
    rintro e w1 ⟨rfl, hb1⟩
    have hb2 := HB.out.trans (hb1.mono HB.out.size)
    have HPS : Hid (PS w w1.heap.size false (.slice none 0 0) [] (w1.alloc (.cells #[.slice none 0 0, .bool false] 78))) := hideR ((PS.new w1).mono hb2)
    clear hb1 hb2 HC HB
    have HC := hideR (dExpr w w1.heap.size d _ l false _ [] [] _ HPS.out St.nil HA.out HR1.out)
    rw [List.nil_append, HID.out] at HC
    clear HID
    go_wp2_with fail
    refine HC.out.mono ?_
    rintro e w3 ⟨ov3, v3, b3, rfl, h3, s3, k3⟩
    have ko := h3.cellO
    have kc := h3.cell
    have hcv := own_text h3.own
    obtain ⟨o3, c3, rfl⟩ := h3.slice
    have HB3 := hideR h3.below
    have hf3 := h3.few
    clear HC k3 HPS h3
    rcases s3 with ⟨rfl, hb3⟩ | ⟨rfl, hl⟩
    · rw [← hb3] at HSE
      clear hb3
      by_cases hbig : 262144 < b3.length
      · have HT : Hid (told b3 = .tuple #[.string ⟨#[]⟩, .int .i64 2]) := hideR (by unfold told; rw [if_pos hbig])
        generalize hbl : b3.length = bl at *
        have hd2 : (262144 : Int) < (bl : Int) := by omega
        clear hcv hbl hf3
        go_wp2
        go_ret2
        exact ⟨congrArg Ending.returned (HT.out.symm.trans HSE.out), HB3.out⟩
      · have HT : Hid (told b3 = .tuple #[.string (strOfNums b3), .int .i64 0]) := hideR (by unfold told; rw [if_neg hbig])
        generalize strOfNums b3 = S0 at *
        generalize hbl : b3.length = bl at *
        have hd2 : ¬ (262144 : Int) < (bl : Int) := by omega
        clear hbl hf3 hbig
        go_wp2
        go_ret2
        exact ⟨congrArg Ending.returned (HT.out.symm.trans HSE.out), HB3.out⟩
    · have HT : Hid (told id = .tuple #[.string ⟨#[]⟩, .int .i64 2]) := hideR (by unfold told; rw [if_pos (by omega)])
      generalize b3.length = bl at *
      clear hcv hl hf3
      go_wp2
      go_ret2
      exact ⟨congrArg Ending.returned (HT.out.symm.trans HSE.out), HB3.out⟩
  · rw [if_neg h0]
    clear HR
    generalize chk (bodyM l) = r at *
    go_enter Tryz.func14, Tryz.ntmps14
    go_wp2_with fail
    refine HC.out.mono ?_
    rintro e w1 ⟨rfl, hb1⟩
    have HB1 := hideR (HB.out.trans (hb1.mono HB.out.size))
    clear hb1 HB HC
    go_wp2
    go_ret2
    exact ⟨rfl, HB1.out⟩
end Go.Proofs.YtloelineidlenaaGreatDoor

namespace Go.Proofs.YtloelineidlenaaGreatDoor
open Go.RowKit Rep Enc Go.Lib
set_option linter.unusedVariables false
namespace Enc
def wakeM : Mod 0 := { types := [⟨[], []⟩], imports := [], funcs := [], tables := [], mems := [], globals := [], exports := [], start := [], elems := [], datas := [] }
theorem row_no {α : Type} {k : Nat} {f : Nat → Nat → α → Prop} : Row k f (.slice none 0 0) [] := ⟨by simp, .inl ⟨rfl, none, 0, rfl⟩⟩
theorem wake_chk : chk wakeM = 0 := by decide
theorem wake_wr : Wr wakeM := ⟨fun x hx => by rw [List.mem_singleton.1 hx]; exact ⟨by decide, by decide⟩, fun x hx => (by cases hx), fun x hx => (by cases hx), fun x hx => (by cases hx), fun x hx => (by cases hx), fun x hx => (by cases hx), fun x hx => (by cases hx), fun x hx => (by cases hx), fun x hx => (by cases hx), fun x hx => (by cases hx), by decide, by decide, fun x hx => (by cases hx), by decide⟩
theorem wake_told : told (modB wakeM) = .tuple #[.string ⟨#[0, 97, 115, 109, 1, 0, 0, 0, 1, 4, 1, 96, 0, 0]⟩, .int .i64 0] := by
  have h : modB wakeM = [0, 97, 115, 109, 1, 0, 0, 0, 1, 4, 1, 96, 0, 0] := by decide
  rw [h]; unfold told; rw [if_neg (by decide)]; rfl
end Enc
set_option maxRecDepth 100000 in
set_option maxHeartbeats 4000000 in
theorem pWake {I : World → Prop} (C : WastC I) (w : World) (hI : I w) : Calls Tryz.prog 7 #[] w fun e w' => e = .returned (.bool true) ∧ Below w.heap.size w w' := by
  have hb := new_on' w (.cells #[.slice none 0 0, .slice none 0 0] 59)
  have hx := Bx.new (w := w) (b := w.heap.size) (t := 59) (cs := #[.slice none 0 0, .slice none 0 0]) rfl
  have hM : ModAt (w.alloc (.cells #[.slice none 0 0, .slice none 0 0] 59)) 0 (.slice (some ⟨w.heap.size, 0, none⟩) 1 1) (.slice none 0 0) (.slice none 0 0) (.slice none 0 0) (.slice none 0 0) (.slice none 0 0) (.slice none 0 0) (.slice none 0 0) (.slice none 0 0) (.slice none 0 0) wakeM :=
    ⟨⟨by show 1 ≤ _; omega, .inr ⟨w.heap.size, 0, 1, rfl, fun i x hi => by
      match i, hi with
      | 0, hi =>
        obtain rfl : (⟨[], []⟩ : FT) = x := by simpa [wakeM] using hi
        exact ⟨⟨_, hx.cell 0 _ rfl, row_no⟩, ⟨_, hx.cell 1 _ rfl, row_no⟩⟩
      | i + 1, hi => simp [wakeM] at hi⟩⟩, row_no, row_no, row_no, row_no, row_no, row_no, row_no, row_no, row_no⟩
  have hC := pEncode1 C 0 _ _ _ _ _ _ _ _ _ _ wakeM _ (C.keep hb hI) hM ⟨by omega, fun x hx => (by cases hx), ⟨fun x hx => (by cases hx), fun x hx => (by cases hx)⟩, fun n c h => (by injection h with _ _ h; exact h.symm), fun n c h => (by injection h with _ _ h; exact h.symm)⟩ wake_chk wake_wr
  rw [wake_told] at hC
  have HC := hideR hC
  have HB := hideR hb
  clear hC hM hx hb hI
  go_enter Tryz.func7, Tryz.ntmps7
  go_wp2_with fail
  refine HC.out.mono ?_
  rintro e w1 ⟨rfl, hb1⟩
  have HB1 := hideR (HB.out.trans (hb1.mono HB.out.size))
  clear hb1 HB HC
  go_wp2
  go_ret
  exact ⟨rfl, HB1.out⟩
end Go.Proofs.YtloelineidlenaaGreatDoor

namespace Go.Proofs.YtloelineidlenaaGreatDoor
open Go.RowKit Rep Enc Go.Lib
set_option linter.unusedVariables false
namespace Enc
def NR1 {α : Type} (rec : α → Prop) (x : Ins α) : Prop := (-9223372036854775808 ≤ x.n ∧ x.n ≤ 9223372036854775807) ∧ rec x.body ∧ rec x.els
def NR : (d : Nat) → IL d → Prop
  | 0, _ => True
  | d + 1, l => ∀ x, x ∈ (show List (Ins (IL d)) from l) → NR1 (NR d) x
theorem goL_all {α : Type} {step : Unit → Ins α → Option Unit} {sub : α → Unit → Option Unit} : ∀ (l : List (Ins α)), goL step sub l () = some () → ∀ x ∈ l, step () x = some () ∧ sub x.body () = some () ∧ sub x.els () = some ()
  | [], _, x, hx => by cases hx
  | y :: r, h, x, hx => by
    have h' : ((step () y).bind fun s1 => (sub y.body s1).bind fun s2 => (sub y.els s2).bind fun s3 => goL step sub r s3) = some () := h
    obtain ⟨s1, e1, h1⟩ := Option.bind_eq_some_iff.1 h'
    obtain ⟨s2, e2, h2⟩ := Option.bind_eq_some_iff.1 h1
    obtain ⟨s3, e3, h3⟩ := Option.bind_eq_some_iff.1 h2
    rcases List.mem_cons.1 hx with rfl | hx
    · exact ⟨e1, e2, e3⟩
    · exact goL_all r h3 x hx
theorem idx_iff {n : Int} (h : idx n = true) : 0 ≤ n ∧ n ≤ 4294967295 := of_decide_eq_true h
theorem rg1_of {α : Type} {rec : α → Prop} {x : Ins α} {nb ne : Nat} (hok : okF (form x.op) x.op x.a x.b x.n x.labels nb ne = true) (hf : x.labels.length ≤ 4096) (hn : -9223372036854775808 ≤ x.n ∧ x.n ≤ 9223372036854775807) (hb : rec x.body) (he : rec x.els) : Rg1 rec x := by
  unfold okF at hok
  refine ⟨fun h4 h8 => ?_, fun h8 => ?_, fun _ => hn, fun h5 => ?_, by omega, hb, he⟩
  · rw [if_neg (by omega), if_neg (by omega), if_neg (by omega)] at hok
    by_cases h : form x.op = 4 ∨ form x.op = 6 ∨ form x.op = 7
    · rw [if_pos h, Bool.and_eq_true] at hok; exact idx_iff hok.1
    · rw [if_neg h] at hok
      by_cases h5 : form x.op = 5
      · rw [if_pos h5, Bool.and_eq_true, Bool.and_eq_true] at hok; exact idx_iff hok.1.1
      · rw [if_neg h5, if_pos (by omega), Bool.and_eq_true, Bool.and_eq_true] at hok; exact idx_iff hok.1.1
  · rw [if_neg (by omega), if_neg (by omega), if_neg (by omega), if_neg (by omega), if_neg (by omega), if_pos h8, Bool.and_eq_true, Bool.and_eq_true] at hok
    exact idx_iff hok.1.2
  · rw [if_neg (by omega), if_neg (by omega), if_neg (by omega), if_neg (by omega), if_pos h5, Bool.and_eq_true, Bool.and_eq_true] at hok
    intro y hy
    exact idx_iff (List.all_eq_true.1 hok.1.2 y hy)
theorem rg_of : ∀ (d : Nat) (l : IL d) (k : Nat), goI stepForm d l k () = some () → goI stepLabels d l k () = some () → NR d l → Rg d l
  | 0, _, _, _, _, _ => trivial
  | d + 1, l, k, hF, hL, hN => by
    intro x hx
    obtain ⟨f1, f2, f3⟩ := goL_all (show List (Ins (IL d)) from l) hF x hx
    obtain ⟨g1, g2, g3⟩ := goL_all (show List (Ins (IL d)) from l) hL x hx
    obtain ⟨n1, n2, n3⟩ := hN x hx
    have hok : okS (sn x) = true := by
      unfold stepForm at f1
      by_cases h : okS (sn x) = true
      · exact h
      · rw [if_neg h] at f1; cases f1
    have hfw : x.labels.length ≤ 4096 := by
      unfold stepLabels at g1
      by_cases h : few (sn x).labels.length = true
      · have := of_decide_eq_true (p := (((sn x).labels.length : Int) ≤ 4096)) h
        have e : (sn x).labels = x.labels := rfl
        rw [e] at this; omega
      · rw [if_neg h] at g1; cases g1
    exact rg1_of hok hfw n1 (rg_of d x.body (k + 1) f2 g2 n2) (rg_of d x.els (k + 1) f3 g3 n3)
def totL {α : Type} (f : α → Nat) : List (Ins α) → Nat
  | [] => 0
  | x :: r => 1 + f x.body + f x.els + totL f r
def tot : (d : Nat) → IL d → Nat
  | 0, _ => 0
  | d + 1, l => totL (tot d) l
theorem goL_tot {α : Type} {f : α → Nat} {step : Nat → Ins α → Option Nat} {sub : α → Nat → Option Nat} (hstep : ∀ c x c', step c x = some c' → c' = c + 1) (hsub : ∀ y c c', sub y c = some c' → c' = c + f y) : ∀ (l : List (Ins α)) (c c' : Nat), goL step sub l c = some c' → c' = c + totL f l
  | [], c, c', h => by injection h with h; rw [← h]; rfl
  | y :: r, c, c', h => by
    have h' : ((step c y).bind fun s1 => (sub y.body s1).bind fun s2 => (sub y.els s2).bind fun s3 => goL step sub r s3) = some c' := h
    obtain ⟨s1, e1, h1⟩ := Option.bind_eq_some_iff.1 h'
    obtain ⟨s2, e2, h2⟩ := Option.bind_eq_some_iff.1 h1
    obtain ⟨s3, e3, h3⟩ := Option.bind_eq_some_iff.1 h2
    have a1 := hstep _ _ _ e1
    have a2 := hsub _ _ _ e2
    have a3 := hsub _ _ _ e3
    have a4 := goL_tot hstep hsub r s3 c' h3
    show c' = c + (1 + f y.body + f y.els + totL f r)
    omega
theorem goI_tot : ∀ (d : Nat) (l : IL d) (k c c' : Nat), goI stepCount d l k c = some c' → c' = c + tot d l
  | 0, _, _, c, c', h => by injection h with h; rw [← h]; rfl
  | d + 1, l, k, c, c', h => goL_tot (f := tot d) (fun c x c' h => by
      unfold stepCount at h
      split at h
      · injection h with h; exact h.symm
      · cases h) (fun y c c' h => goI_tot d y (k + 1) c c' h) (show List (Ins (IL d)) from l) c c' h
theorem goI_count_le : ∀ (d : Nat) (l : IL d) (k c c' : Nat), c ≤ 65536 → goI stepCount d l k c = some c' → c' ≤ 65536
  | 0, _, _, c, c', hc, h => by injection h with h; omega
  | d + 1, l, k, c, c', hc, h => by
    have key : ∀ (l : List (Ins (IL d))) (c c' : Nat), c ≤ 65536 → goL (fun s x => stepCount s (sn x) k) (fun y s => goI stepCount d y (k + 1) s) l c = some c' → c' ≤ 65536 := by
      intro l
      induction l with
      | nil => intro c c' hc h; injection h with h; omega
      | cons y r ih =>
        intro c c' hc h
        have h' : ((stepCount c (sn y) k).bind fun s1 => (goI stepCount d y.body (k + 1) s1).bind fun s2 => (goI stepCount d y.els (k + 1) s2).bind fun s3 => goL (fun s x => stepCount s (sn x) k) (fun y s => goI stepCount d y (k + 1) s) r s3) = some c' := h
        obtain ⟨s1, e1, h1⟩ := Option.bind_eq_some_iff.1 h'
        obtain ⟨s2, e2, h2⟩ := Option.bind_eq_some_iff.1 h1
        obtain ⟨s3, e3, h3⟩ := Option.bind_eq_some_iff.1 h2
        have b1 : s1 ≤ 65536 := by
          unfold stepCount at e1
          split at e1
          · injection e1 with e1; omega
          · cases e1
        exact ih s3 c' (goI_count_le d _ _ _ _ (goI_count_le d _ _ _ _ b1 e2) e3) h3
    exact key (show List (Ins (IL d)) from l) c c' hc h
theorem insB_len {α : Type} {rec : α → List Int} {sz : α → Nat} {P : α → Prop} {x : Ins α} (r : Rg1 P x) : (insB rec sz x).length ≤ 100000100 + (rec x.body).length + (rec x.els).length := by
  unfold insB
  have ha : 4 ≤ form x.op → form x.op ≤ 8 → (Leb.uB x.a).length ≤ 10 := fun h1 h2 => Leb.uB_ten (r.a h1 h2).1 (by have := (r.a h1 h2).2; omega)
  have hb : form x.op = 8 → (Leb.uB x.b).length ≤ 10 := fun h => Leb.uB_ten (r.b h).1 (by have := (r.b h).2; omega)
  have hn : form x.op = 9 → (Leb.sB x.n).length ≤ 10 := fun h => Leb.sB_ten (r.n h).1 (r.n h).2
  have hi : form x.op = 5 → (idxB x.labels).length ≤ 100000010 := fun h => by
    have h1 := Leb.uB_ten (n := (x.labels.length : Int)) (by omega) (by have := r.few; omega)
    have h2 := flat_le (f := Leb.uB) 10 x.labels fun y hy => Leb.uB_ten (r.labels h y hy).1 (by have := (r.labels h y hy).2; omega)
    have h3 := r.few
    unfold idxB
    rw [List.length_append]; omega
  rw [List.length_append]
  simp only [List.length_cons, List.length_nil]
  split
  · split <;> simp <;> omega
  · split
    · simp only [List.length_append, List.length_cons, List.length_nil]
      have e1 : (if x.a = 0 then [64] else [x.a % 256] : List Int).length = 1 := by split <;> rfl
      have e2 : (if 0 < sz x.els then 5 :: ([] ++ rec x.els) else [] : List Int).length ≤ 1 + (rec x.els).length := by split <;> simp <;> omega
      have e3 : (if 0 < sz x.els then [5] ++ rec x.els else [] : List Int).length ≤ 1 + (rec x.els).length := by split <;> simp <;> omega
      omega
    · split
      · have := ha (by omega) (by omega); omega
      · split
        · rw [List.length_append]; have := ha (by omega) (by omega); have := hi (by omega); omega
        · split
          · rw [List.length_append]; have := ha (by omega) (by omega); simp only [List.length_cons, List.length_nil]; omega
          · split
            · rw [List.length_append]; have := ha (by omega) (by omega); have := hb (by omega); omega
            · split
              · have := hn (by omega); omega
              · simp; omega
theorem bytesI_len : ∀ (d : Nat) (l : IL d), Rg d l → (bytesI d l).length ≤ tot d l * 100000100
  | 0, _, _ => by show 0 ≤ _; omega
  | d + 1, l, hR => by
    have key : ∀ (l : List (Ins (IL d))), (∀ x ∈ l, Rg1 (Rg d) x) → (insL (bytesI d) (size d) l).length ≤ totL (tot d) l * 100000100 := by
      intro l
      induction l with
      | nil => intro _; show 0 ≤ _; omega
      | cons y r ih =>
        intro h
        have h1 := ih fun x hx => h x (List.mem_cons_of_mem _ hx)
        have r := h y (List.mem_cons_self ..)
        have h2 := insB_len (rec := bytesI d) (sz := size d) r
        have h3 := bytesI_len d y.body r.body
        have h4 := bytesI_len d y.els r.els
        show (insB (bytesI d) (size d) y ++ insL (bytesI d) (size d) _).length ≤ (1 + tot d y.body + tot d y.els + totL (tot d) _) * 100000100
        rw [List.length_append]
        omega
    exact key (show List (Ins (IL d)) from l) hR
theorem chk_zero {d : Nat} {m : Mod d} (h : chk m = 0) : fewM m = true ∧ (∃ c, goF stepCount d m.funcs 0 = some c) ∧ goF stepLabels d m.funcs () = some () ∧ shM m = true ∧ goF stepForm d m.funcs () = some () := by
  unfold chk at h
  split at h
  · rename_i h0
    split at h
    · cases h
    · rename_i c hc
      split at h
      · cases h
      · rename_i u1 h1
        split at h
        · cases h
        · split at h
          · rename_i h3
            split at h
            · cases h
            · rename_i u2 h4
              exact ⟨h0, ⟨c, hc⟩, h1, h3, h4⟩
          · cases h
  · cases h
theorem goF_one {σ : Type} {step : σ → Sn → Nat → Option σ} {d : Nat} {f : Fun d} {s s' : σ} (h : goF step d [f] s = some s') : goI step d f.body 0 s = some s' := by
  have h' : ((goI step d f.body 0 s).bind fun s1 => some s1) = some s' := h
  obtain ⟨s1, e1, h1⟩ := Option.bind_eq_some_iff.1 h'
  rw [e1]; exact h1
end Enc
end Go.Proofs.YtloelineidlenaaGreatDoor

namespace Go.Proofs.YtloelineidlenaaGreatDoor
open Go.RowKit Rep Enc Go.Lib
set_option linter.unusedVariables false
namespace Enc
theorem NR_empty : ∀ (d : Nat) (l : IL d), size d l = 0 → NR d l
  | 0, _, _ => trivial
  | d + 1, l, h => by
    intro x hx
    have : (show List (Ins (IL d)) from l) = [] := List.length_eq_zero_iff.1 h
    rw [this] at hx; cases hx
theorem NR_on {w : World} : ∀ (d e : Nat) (v : Value) (l : IL d) (k : IL e), At w d v l → At w e v k → NR e k → NR d l
  | 0, _, _, _, _, _, _, _ => trivial
  | d + 1, 0, v, l, k, hl, hk, _ => by
    obtain ⟨o, cap, rfl⟩ := hk
    obtain ⟨o', cap', h⟩ := At.len (d + 1) _ _ hl
    injection h with _ h2 _
    exact NR_empty (d + 1) l h2.symm
  | d + 1, e + 1, v, l, k, hl, hk, hN => by
    intro x hx
    have hl' : Row 7 (InsAt w (At w d)) v (show List (Ins (IL d)) from l) := hl
    have hk' : Row 7 (InsAt w (At w e)) v (show List (Ins (IL e)) from k) := hk
    obtain ⟨i, hi, rfl⟩ := List.getElem_of_mem hx
    obtain ⟨b, off, cap, hv, hc⟩ := Row.some hl' (by omega)
    obtain ⟨o2, cap2, hv2⟩ := Row.len hk'
    rw [hv] at hv2
    injection hv2 with _ hlen _
    obtain ⟨b', off', cap', hv', hc'⟩ := Row.some hk' (by omega)
    rw [hv] at hv'
    injection hv' with ha _ _
    injection ha with ha
    injection ha with hb ho _
    subst hb ho
    obtain ⟨y, hy⟩ : ∃ y, (show List (Ins (IL e)) from k)[i]? = some y := ⟨_, List.getElem?_eq_getElem (by omega)⟩
    have hX := hc i _ (List.getElem?_eq_getElem hi)
    have hY := hc' i y hy
    obtain ⟨n1, n2, n3⟩ := hN y (List.mem_of_getElem? hy)
    obtain ⟨v5, c5, a5⟩ := hX.body
    obtain ⟨v6, c6, a6⟩ := hX.els
    obtain ⟨u5, d5, b5⟩ := hY.body
    obtain ⟨u6, d6, b6⟩ := hY.els
    have e5 : v5 = u5 := by rw [c5] at d5; exact Option.some.inj d5
    have e6 : v6 = u6 := by rw [c6] at d6; exact Option.some.inj d6
    have en : ((show List (Ins (IL d)) from l)[i]).n = y.n := by
      have h1 := hX.n
      rw [hY.n] at h1
      injection h1 with h1
      injection h1 with _ h1
      exact h1.symm
    refine ⟨by rw [en]; exact n1, ?_, ?_⟩
    · exact NR_on d e v5 _ y.body a5 (e5 ▸ b5) n2
    · exact NR_on d e v6 _ y.els a6 (e6 ▸ b6) n3
end Enc
section Of
variable {H : Type} {enc : TypeId × Value → H} {w : World} {base : Nat} {spare : Nat → Bool} {held : Bool}
theorem insN_of {n d : Nat} {cs : List Value} {y : DataW H × List MemPlace} {b o : Nat} (hy : DataW.trod enc Tryz.prog w base spare held n 52 cs = some y) (hc : ∀ j, j < 7 → w.cell? ⟨b, o + j, none⟩ = cs[j]?)
    (ih : ∀ m v x, n = m + 1 → DataW.trod enc Tryz.prog w base spare held m 42 [v] = some x → ∃ l : IL d, At w d v l ∧ NR d l) : ∃ z : Ins (IL d), InsAt w (At w d) b o z ∧ NR1 (NR d) z := by
  obtain ⟨xs, m, rfl, _, _, hxl, hall⟩ := DataW.trod_struct Tryz.underlying52 hy
  obtain ⟨y0, g0⟩ := field_get hxl hall 0 _ rfl
  obtain ⟨y1, g1⟩ := field_get hxl hall 1 _ rfl
  obtain ⟨y2, g2⟩ := field_get hxl hall 2 _ rfl
  obtain ⟨y3, g3⟩ := field_get hxl hall 3 _ rfl
  obtain ⟨y4, g4⟩ := field_get hxl hall 4 _ rfl
  obtain ⟨y5, g5⟩ := field_get hxl hall 5 _ rfl
  obtain ⟨y6, g6⟩ := field_get hxl hall 6 _ rfl
  obtain ⟨z0, e0, _⟩ := int_field Tryz.underlying3 cInt g0
  obtain ⟨z1, e1, _⟩ := int_field Tryz.underlying3 cInt g1
  obtain ⟨z2, e2, _⟩ := int_field Tryz.underlying3 cInt g2
  obtain ⟨z3, e3, hw0⟩ := int_field Tryz.underlying3 cInt g3
  have hw : -9223372036854775808 ≤ z3 ∧ z3 ≤ 9223372036854775807 := by have := bounds_i64 hw0; omega
  obtain ⟨v4, e4, t4⟩ := slice_field Tryz.underlying28 cInts g4
  obtain ⟨v5, e5, t5⟩ := slice_field Tryz.underlying42 cInstrs g5
  obtain ⟨v6, e6, t6⟩ := slice_field Tryz.underlying42 cInstrs g6
  obtain ⟨l4, h4⟩ := ints_of t4
  obtain ⟨l5, h5, r5⟩ := ih m v5 _ rfl t5
  obtain ⟨l6, h6, r6⟩ := ih m v6 _ rfl t6
  exact ⟨⟨z0, z1, z2, z3, l4, l5, l6⟩, ⟨(hc 0 (by omega)).trans e0, (hc 1 (by omega)).trans e1, (hc 2 (by omega)).trans e2, (hc 3 (by omega)).trans e3, ⟨v4, (hc 4 (by omega)).trans e4, h4⟩, ⟨v5, (hc 5 (by omega)).trans e5, h5⟩, ⟨v6, (hc 6 (by omega)).trans e6, h6⟩⟩, hw, r5, r6⟩
theorem atN_of (fuel : Nat) : ∀ (d : Nat) (v : Value) (x : DataW H × List MemPlace), fuel ≤ d → DataW.trod enc Tryz.prog w base spare held fuel 42 [v] = some x → ∃ l : IL d, At w d v l ∧ NR d l := by
  induction fuel using Nat.strongRecOn with
  | _ fuel ih =>
    intro d v x hd h
    cases d with
    | zero =>
      obtain rfl : fuel = 0 := by omega
      simp [DataW.trod] at h
    | succ d =>
      obtain ⟨⟨l, hl⟩, _⟩ := row_of_trod (α := Ins (IL d)) 7 (by omega) (fun b o z => InsAt w (At w d) b o z ∧ NR1 (NR d) z) Tryz.underlying42 cInstr h fun n cs y b o hn hy _ hc =>
        insN_of hy hc fun m' v x hm hx => ih m' (by omega) d v x (by omega) hx
      exact ⟨l, hl.imp fun _ _ _ _ h => h.1, row_mem hl⟩
end Of
end Go.Proofs.YtloelineidlenaaGreatDoor

namespace Go.Proofs.YtloelineidlenaaGreatDoor
open Go.RowKit Rep Enc Go.Lib
set_option linter.unusedVariables false
namespace Enc
theorem body_rg {d : Nat} {l : IL d} (hN : NR d l) (h : chk (bodyM l) = 0) : Rg d l ∧ (bytesI d l).length ≤ 38000000000000 := by
  obtain ⟨_, ⟨c, hc⟩, hL, _, hF⟩ := chk_zero h
  have hR := rg_of d l 0 (goF_one hF) (goF_one hL) hN
  have hc' := goF_one (f := { type := 0, locals := [], body := l }) hc
  have h1 := goI_tot d l 0 0 c hc'
  have h2 := goI_count_le d l 0 0 c (by omega) hc'
  have h3 := bytesI_len d l hR
  have h4 : tot d l ≤ 65536 := by omega
  have h5 : tot d l * 100000100 ≤ 65536 * 100000100 := Nat.mul_le_mul_right _ h4
  exact ⟨hR, by omega⟩
theorem bodA_eq {d : Nat} (l : IL d) : ∃ S E, bodA l = .tuple #[.string S, .int .i64 E] := by
  unfold bodA
  split
  · exact ⟨_, _, told_eq _⟩
  · exact ⟨_, _, rfl⟩
theorem large_body {w : World} {b : Nat} {lv : Value} {m : Mod 81} (hM : ModAt w 81 (.slice none 0 0) (.slice none 0 0) (.slice (some ⟨b, 0, none⟩) 1 1) (.slice none 0 0) (.slice none 0 0) (.slice none 0 0) (.slice none 0 0) (.slice none 0 0) (.slice none 0 0) (.slice none 0 0) m) (hs : Small m) (hc : w.cell? ⟨b, 2, none⟩ = some lv) : ∃ k : IL 81, At w 81 lv k ∧ Lb 81 k := by
  obtain ⟨o, cap, hv⟩ := Row.len hM.funcs
  injection hv with _ hl _
  obtain ⟨b', off, cap', hv', hcx⟩ := Row.some hM.funcs (by omega)
  injection hv' with ha _ _
  injection ha with ha
  injection ha with hb ho _
  subst hb ho
  obtain ⟨f, hf⟩ : ∃ f, m.funcs[0]? = some f := ⟨_, List.getElem?_eq_getElem (by omega)⟩
  obtain ⟨_, _, v, hv, hA⟩ := hcx 0 f hf
  have : v = lv := by
    have h1 : w.cell? ⟨b, 0 + 0 * 3 + 2, none⟩ = some v := hv
    simp only [Nat.zero_mul, Nat.zero_add] at h1
    rw [hc] at h1
    exact (Option.some.inj h1).symm
  subst this
  exact ⟨f.body, hA, (hs.funcs f (List.mem_of_getElem? hf)).2⟩
end Enc
set_option maxRecDepth 100000 in
set_option maxHeartbeats 8000000 in
theorem refCopiesL (d : Nat) (v : Value) (l : IL d) (w : World) (hA : At w d v l) (hL : Lb d l) : Calls Tryz.prog 13 #[v] w (CopyPost d l w) := by
  obtain ⟨oL, kL, rfl⟩ := At.len d _ _ hA
  have HC := hideR (refCopies d _ l w hA hL)
  clear hA hL
  generalize size d l = n at *
  go_enter Tryz.func13, Tryz.ntmps13
  go_wp2_with fail
  refine HC.out.mono ?_
  rintro e w1 ⟨v1, rfl, h1, h2⟩
  have HF := hideR (⟨h1, h2⟩ : _ ∧ _)
  obtain ⟨o1, k1, rfl⟩ := At.len d _ _ (AtS.at d _ _ h1)
  clear h1 h2 HC
  generalize size d l = n1 at *
  go_wp2
  go_ret
  exact ⟨_, rfl, HF.out.1, HF.out.2⟩
set_option maxRecDepth 100000 in
set_option maxHeartbeats 8000000 in
theorem bodiesC {I : World → Prop} (C : WastC I) (d : Nat) (lv : Value) (l : IL d) (w : World) (hI : I w) (hA : At w d lv l) (hN : NR d l) :
    Calls Tryz.prog 4 #[lv] w fun e w' => e = .returned (.bool true) ∧ Below w.heap.size w w' := by
  obtain ⟨u1, hu1⟩ : ∃ u1, u1 = w.alloc (.cells #[.int .i64 0, .slice none 0 0, lv] 44) := ⟨_, rfl⟩
  have hb : Below w.heap.size w u1 := by rw [hu1]; exact new_on' w _
  have hx : Bx u1 w.heap.size 44 #[.int .i64 0, .slice none 0 0, lv] := by rw [hu1]; exact Bx.new rfl
  have HL := hideR (pLarge d _ _ _ _ _ _ _ _ _ _ (bodyM l) u1 (bodyM_at hA hb hx) (fun x hx => by simp [bodyM] at hx))
  have HI := hideR hI
  have HA := hideR hA
  have HN := hideR hN
  have HB := hideR hb
  have HX := hideR hx
  have HU := hideR hu1
  obtain ⟨oL, kL, hlv⟩ := At.len d _ _ hA
  have HLV := hideR hlv
  rw [hlv] at HX HU ⊢
  clear hI hA hN hb hx hu1 hlv
  generalize size d l = nl at *
  go_enter Tryz.func4, Tryz.ntmps4
  go_wp2_with fail
  rw [← HU.out]
  clear HU
  refine HL.out.mono ?_
  rintro e u2 ⟨hb2, hor⟩
  have HB2 := hideR (HB.out.trans (hb2.mono HB.out.size))
  have HI2 := hideR (C.keep HB2.out HI.out)
  rcases hor with rfl | ⟨rfl, m, hm, hs, _, _⟩
  · clear hb2 HL
    go_wp2_with fail
    refine (pWake C _ HI2.out).mono ?_
    rintro e u3 ⟨rfl, hb3⟩
    have HB3 := hideR (HB2.out.trans (hb3.mono HB2.out.size))
    clear hb3
    go_wp2
    go_ret
    exact ⟨rfl, HB3.out⟩
  · have hc2 : u2.cell? ⟨w.heap.size, 2, none⟩ = some (.slice oL nl kL) := cell_on hb2 (HX.out.cell 2 _ rfl)
    obtain ⟨k, hk, hlb⟩ := large_body hm hs hc2
    have hNk : NR 81 k := NR_on 81 d _ k l hk (At.on HB2.out d _ _ (HLV.out ▸ HA.out)) HN.out
    have HKA := hideR hk
    have HNK := hideR hNk
    have HC := hideR (refCopiesL 81 _ k u2 hk hlb)
    obtain ⟨S, E, hSE⟩ := bodA_eq k
    have HSE := hideR hSE
    clear hb2 HL hm hs hc2 hk hlb hNk hSE
    go_wp2_with fail
    refine HC.out.mono ?_
    rintro e u3 ⟨v3, rfl, h3, hb3⟩
    have HB3 := hideR (HB2.out.trans (hb3.mono HB2.out.size))
    have hA3 : At u3 81 v3 k := AtS.at 81 _ _ h3
    have HC2 := hideR (pBody C 81 v3 k u3 (C.keep HB3.out HI.out) hA3 (by decide) (fun h => body_rg HNK.out h))
    rw [HSE.out] at HC2
    have HK3 := hideR (At.on hb3 81 _ _ HKA.out)
    obtain ⟨o3, k3, rfl⟩ := At.len 81 _ _ hA3
    clear HC h3 hb3 hA3 HKA
    generalize size 81 k = n3 at *
    go_wp2_with fail
    refine HC2.out.mono ?_
    rintro e u4 ⟨rfl, hb4⟩
    have HB4 := hideR (HB3.out.trans (hb4.mono HB3.out.size))
    have HC3 := hideR (dBody 81 _ k u4 (At.on hb4 81 _ _ HK3.out) (fun h => (body_rg HNK.out h).1))
    rw [HSE.out] at HC3
    clear HC2 hb4 HK3
    go_wp2_with fail
    refine HC3.out.mono ?_
    rintro e u5 ⟨rfl, hb5⟩
    have HB5 := hideR (HB4.out.trans (hb5.mono HB4.out.size))
    clear HC3 hb5
    have HC4 := hideR (pWake C u5 (C.keep HB5.out HI.out))
    go_wp2_with fail
    refine HC4.out.mono ?_
    rintro e u6 ⟨rfl, hb6⟩
    have HB6 := hideR (HB5.out.trans (hb6.mono HB5.out.size))
    clear hb6 HC4
    go_wp2
    go_ret
    exact ⟨rfl, HB6.out⟩
end Go.Proofs.YtloelineidlenaaGreatDoor

namespace Go.Proofs.YtloelineidlenaaGreatDoor
open Go.RowKit Rep
set_option linter.unusedVariables false
theorem preck0 (op : Int) (w : World) (h : op ≤ 68) : Calls Tryz.prog 115 #[.int .i64 op] w fun e w' => e = .returned (.bool false) ∧ w' = w := by
  have q167 : (op == 167) = false := by rw [beq_eq_false_iff_ne]; omega
  have q172 : (op == 172) = false := by rw [beq_eq_false_iff_ne]; omega
  have q173 : (op == 173) = false := by rw [beq_eq_false_iff_ne]; omega
  have a69 : decide ((69 : Int) ≤ op) = false := decide_eq_false (by omega)
  have a103 : decide ((103 : Int) ≤ op) = false := decide_eq_false (by omega)
  clear h
  go_enter Tryz.func115, Tryz.ntmps115
  go_wp2
  go_ret
  exact ⟨rfl, rfl⟩
theorem preck1 (op : Int) (w : World) (h : 69 ≤ op ∧ op ≤ 90) : Calls Tryz.prog 115 #[.int .i64 op] w fun e w' => e = .returned (.bool true) ∧ w' = w := by
  have q167 : (op == 167) = false := by rw [beq_eq_false_iff_ne]; omega
  have q172 : (op == 172) = false := by rw [beq_eq_false_iff_ne]; omega
  have q173 : (op == 173) = false := by rw [beq_eq_false_iff_ne]; omega
  have a69 : decide ((69 : Int) ≤ op) = true := decide_eq_true (by omega)
  have b90 : decide (op ≤ (90 : Int)) = true := decide_eq_true (by omega)
  have a103 : decide ((103 : Int) ≤ op) = false := decide_eq_false (by omega)
  clear h
  go_enter Tryz.func115, Tryz.ntmps115
  go_wp2
  go_ret
  exact ⟨rfl, rfl⟩
theorem preck2 (op : Int) (w : World) (h : 91 ≤ op ∧ op ≤ 102) : Calls Tryz.prog 115 #[.int .i64 op] w fun e w' => e = .returned (.bool false) ∧ w' = w := by
  have q167 : (op == 167) = false := by rw [beq_eq_false_iff_ne]; omega
  have q172 : (op == 172) = false := by rw [beq_eq_false_iff_ne]; omega
  have q173 : (op == 173) = false := by rw [beq_eq_false_iff_ne]; omega
  have a69 : decide ((69 : Int) ≤ op) = true := decide_eq_true (by omega)
  have b90 : decide (op ≤ (90 : Int)) = false := decide_eq_false (by omega)
  have a103 : decide ((103 : Int) ≤ op) = false := decide_eq_false (by omega)
  clear h
  go_enter Tryz.func115, Tryz.ntmps115
  go_wp2
  go_ret
  exact ⟨rfl, rfl⟩
theorem preck3 (op : Int) (w : World) (h : 103 ≤ op ∧ op ≤ 138) : Calls Tryz.prog 115 #[.int .i64 op] w fun e w' => e = .returned (.bool true) ∧ w' = w := by
  have q167 : (op == 167) = false := by rw [beq_eq_false_iff_ne]; omega
  have q172 : (op == 172) = false := by rw [beq_eq_false_iff_ne]; omega
  have q173 : (op == 173) = false := by rw [beq_eq_false_iff_ne]; omega
  have a69 : decide ((69 : Int) ≤ op) = true := decide_eq_true (by omega)
  have b90 : decide (op ≤ (90 : Int)) = false := decide_eq_false (by omega)
  have a103 : decide ((103 : Int) ≤ op) = true := decide_eq_true (by omega)
  have b138 : decide (op ≤ (138 : Int)) = true := decide_eq_true (by omega)
  clear h
  go_enter Tryz.func115, Tryz.ntmps115
  go_wp2
  go_ret
  exact ⟨rfl, rfl⟩
theorem preck4 (op : Int) (w : World) (h : 139 ≤ op ∧ op ≤ 166) : Calls Tryz.prog 115 #[.int .i64 op] w fun e w' => e = .returned (.bool false) ∧ w' = w := by
  have q167 : (op == 167) = false := by rw [beq_eq_false_iff_ne]; omega
  have q172 : (op == 172) = false := by rw [beq_eq_false_iff_ne]; omega
  have q173 : (op == 173) = false := by rw [beq_eq_false_iff_ne]; omega
  have a69 : decide ((69 : Int) ≤ op) = true := decide_eq_true (by omega)
  have b90 : decide (op ≤ (90 : Int)) = false := decide_eq_false (by omega)
  have a103 : decide ((103 : Int) ≤ op) = true := decide_eq_true (by omega)
  have b138 : decide (op ≤ (138 : Int)) = false := decide_eq_false (by omega)
  clear h
  go_enter Tryz.func115, Tryz.ntmps115
  go_wp2
  go_ret
  exact ⟨rfl, rfl⟩
theorem preck5 (op : Int) (w : World) (h : 167 ≤ op ∧ op ≤ 167) : Calls Tryz.prog 115 #[.int .i64 op] w fun e w' => e = .returned (.bool true) ∧ w' = w := by
  obtain rfl : op = 167 := by omega
  clear h
  go_enter Tryz.func115, Tryz.ntmps115
  go_wp2
  go_ret
  exact ⟨rfl, rfl⟩
theorem preck6 (op : Int) (w : World) (h : 168 ≤ op ∧ op ≤ 171) : Calls Tryz.prog 115 #[.int .i64 op] w fun e w' => e = .returned (.bool false) ∧ w' = w := by
  have q167 : (op == 167) = false := by rw [beq_eq_false_iff_ne]; omega
  have q172 : (op == 172) = false := by rw [beq_eq_false_iff_ne]; omega
  have q173 : (op == 173) = false := by rw [beq_eq_false_iff_ne]; omega
  have a69 : decide ((69 : Int) ≤ op) = true := decide_eq_true (by omega)
  have b90 : decide (op ≤ (90 : Int)) = false := decide_eq_false (by omega)
  have a103 : decide ((103 : Int) ≤ op) = true := decide_eq_true (by omega)
  have b138 : decide (op ≤ (138 : Int)) = false := decide_eq_false (by omega)
  clear h
  go_enter Tryz.func115, Tryz.ntmps115
  go_wp2
  go_ret
  exact ⟨rfl, rfl⟩
theorem preck7 (op : Int) (w : World) (h : 172 ≤ op ∧ op ≤ 172) : Calls Tryz.prog 115 #[.int .i64 op] w fun e w' => e = .returned (.bool true) ∧ w' = w := by
  obtain rfl : op = 172 := by omega
  clear h
  go_enter Tryz.func115, Tryz.ntmps115
  go_wp2
  go_ret
  exact ⟨rfl, rfl⟩
theorem preck8 (op : Int) (w : World) (h : 173 ≤ op ∧ op ≤ 173) : Calls Tryz.prog 115 #[.int .i64 op] w fun e w' => e = .returned (.bool true) ∧ w' = w := by
  obtain rfl : op = 173 := by omega
  clear h
  go_enter Tryz.func115, Tryz.ntmps115
  go_wp2
  go_ret
  exact ⟨rfl, rfl⟩
theorem preck9 (op : Int) (w : World) (h : 174 ≤ op) : Calls Tryz.prog 115 #[.int .i64 op] w fun e w' => e = .returned (.bool false) ∧ w' = w := by
  have q167 : (op == 167) = false := by rw [beq_eq_false_iff_ne]; omega
  have q172 : (op == 172) = false := by rw [beq_eq_false_iff_ne]; omega
  have q173 : (op == 173) = false := by rw [beq_eq_false_iff_ne]; omega
  have a69 : decide ((69 : Int) ≤ op) = true := decide_eq_true (by omega)
  have b90 : decide (op ≤ (90 : Int)) = false := decide_eq_false (by omega)
  have a103 : decide ((103 : Int) ≤ op) = true := decide_eq_true (by omega)
  have b138 : decide (op ≤ (138 : Int)) = false := decide_eq_false (by omega)
  clear h
  go_enter Tryz.func115, Tryz.ntmps115
  go_wp2
  go_ret
  exact ⟨rfl, rfl⟩
theorem preckons (op : Int) (w : World) : Calls Tryz.prog 115 #[.int .i64 op] w fun e w' => e = .returned (.bool (rkn op)) ∧ w' = w := by
  by_cases c0 : op ≤ 68
  · rw [show rkn op = false from decide_eq_false (by omega)]; exact preck0 op w (by omega)
  by_cases c1 : op ≤ 90
  · rw [show rkn op = true from decide_eq_true (by omega)]; exact preck1 op w (by omega)
  by_cases c2 : op ≤ 102
  · rw [show rkn op = false from decide_eq_false (by omega)]; exact preck2 op w (by omega)
  by_cases c3 : op ≤ 138
  · rw [show rkn op = true from decide_eq_true (by omega)]; exact preck3 op w (by omega)
  by_cases c4 : op ≤ 166
  · rw [show rkn op = false from decide_eq_false (by omega)]; exact preck4 op w (by omega)
  by_cases c5 : op ≤ 167
  · rw [show rkn op = true from decide_eq_true (by omega)]; exact preck5 op w (by omega)
  by_cases c6 : op ≤ 171
  · rw [show rkn op = false from decide_eq_false (by omega)]; exact preck6 op w (by omega)
  by_cases c7 : op ≤ 172
  · rw [show rkn op = true from decide_eq_true (by omega)]; exact preck7 op w (by omega)
  by_cases c8 : op ≤ 173
  · rw [show rkn op = true from decide_eq_true (by omega)]; exact preck8 op w (by omega)
  rw [show rkn op = false from decide_eq_false (by omega)]; exact preck9 op w (by omega)
theorem reckC : ReckC UtfI := ⟨utfI_on, fun op w _ => (preckons op w).mono fun e w' ⟨h1, h2⟩ => ⟨h1, by rw [h2]; exact Below.refl _ _⟩⟩
theorem theC : WastC UtfI := wastC reckC fun _ h => h
end Go.Proofs.YtloelineidlenaaGreatDoor

namespace Go.Proofs.YtloelineidlenaaGreatDoor
open Go.RowKit Go.Shelf Go.Lib Rep
theorem own : ownKnob Tryz.prog.godebug = none := by kernel_rfl
theorem acceptIs : (Rows.laid_unicode_utf8_acceptRanges : DataW Unit) = Lib.acceptData := by kernel_rfl
theorem firstIs : Rows.laid_unicode_utf8_first = Lib.firstData := by kernel_rfl
theorem tabsOf {W : World} (hL : laidMetH Tryz.prog [("unicode/utf8.acceptRanges", Rows.laid_unicode_utf8_acceptRanges), ("unicode/utf8.first", Rows.laid_unicode_utf8_first)] W) : UtfI W := by
  rw [acceptIs, firstIs] at hL
  have hM : laidMet Tryz.prog [("unicode/utf8.acceptRanges", Lib.acceptData), ("unicode/utf8.first", Lib.firstData)] W := hL
  exact utf8Tabs_of_readsT (U8Types.of196 Tryz.laysValid) ⟨by kernel_rfl, by kernel_rfl, by kernel_rfl, by kernel_rfl, by kernel_rfl, by kernel_rfl, by kernel_rfl⟩ (Lib.laidMet.reads hM (.tail _ (.head _))) (Lib.laidMet.reads hM (.head _))
noncomputable def laidWorld (os : Os) : World :=
  let w0 := World.holding Tryz.prog os ⟨#[], #[], []⟩
  let put (h : Array Obj) (g : Nat) (cs : Array Value) : Array Obj := h.modify g fun
    | .cells _ t frozen => .cells cs t frozen
    | o => o
  let h1 := put w0.heap 0 (Lib.firstTab.map fun z => Value.int .u8 z).toArray
  let h2 := put h1 1 ((List.range 16).flatMap fun i => [Value.int .u8 (Lib.accLo i), Value.int .u8 (Lib.accHi i)]).toArray
  { w0 with heap := h2 }
theorem laid_met (os : Os) (args : Array Value) : laidMet Tryz.prog [("unicode/utf8.acceptRanges", Rows.laid_unicode_utf8_acceptRanges), ("unicode/utf8.first", Rows.laid_unicode_utf8_first)] ((laidWorld os).forCall (fun _ _ => 0) ⟨#[], args, []⟩).memory := by
  rw [acceptIs, firstIs]
  exact (LaidIn.of_run (l := [("unicode/utf8.acceptRanges", Lib.acceptData), ("unicode/utf8.first", Lib.firstData)]) [1, 0] 8 (by kernel_rfl) (by kernel_rfl) (by kernel_rfl) (by kernel_rfl)).met
end Go.Proofs.YtloelineidlenaaGreatDoor
