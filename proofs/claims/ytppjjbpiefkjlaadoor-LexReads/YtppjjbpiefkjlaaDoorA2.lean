/- Tokens: the smallest walks of both sides: kinds of signs, integers. -/
import Derived.Test.YtppjjbpiefkjlaaDoorA1
namespace Go.Proofs.YtppjjbpiefkjlaaDoor
open Go.RowKit Lx
set_option linter.unusedVariables false
theorem ret_int {k : IntKind} {a b : Int} (h : a = b) : Ending.returned (.int k a) = .returned (.int k b) := by rw [h]
theorem hideR {p : Prop} (h : p) : Hid p := h
theorem ret_bool {a b : Bool} (h : a = b) : Ending.returned (.bool a) = .returned (.bool b) := by rw [h]
theorem below_go {w u v : World} (h : Below w.heap.size w u) (k : Below u.heap.size u v) : Below w.heap.size w v := h.trans (k.mono h.size)
theorem pSmall (c : Int) (w : World) : Calls Tryd.prog 17 #[.int .i32 c] w fun e w' => e = .returned (.bool (sm c)) ∧ w' = w := by
  have hB : sm c = (decide (97 ≤ c) && decide (c ≤ 122)) := rfl
  generalize sm c = B at hB ⊢
  by_cases h1 : 97 ≤ c
  · rw [decide_eq_true h1, Bool.true_and] at hB
    have q1 : decide (97 ≤ c) = true := decide_eq_true h1
    by_cases h2 : c ≤ 122
    · rw [decide_eq_true h2] at hB
      have q2 : decide (c ≤ 122) = true := decide_eq_true h2
      subst hB
      clear h1 h2
      go_enter Tryd.func17, Tryd.ntmps17
      go_wp2
      go_ret
      exact ⟨rfl, rfl⟩
    · rw [decide_eq_false h2] at hB
      have q2 : decide (c ≤ 122) = false := decide_eq_false h2
      subst hB
      clear h1 h2
      go_enter Tryd.func17, Tryd.ntmps17
      go_wp2
      go_ret
      exact ⟨rfl, rfl⟩
  · rw [decide_eq_false h1, Bool.false_and] at hB
    have q1 : decide (97 ≤ c) = false := decide_eq_false h1
    subst hB
    clear h1
    go_enter Tryd.func17, Tryd.ntmps17
    go_wp2
    go_ret
    exact ⟨rfl, rfl⟩
theorem pCapital (c : Int) (w : World) : Calls Tryd.prog 19 #[.int .i32 c] w fun e w' => e = .returned (.bool (cp c)) ∧ w' = w := by
  have hB : cp c = (decide (65 ≤ c) && decide (c ≤ 90)) := rfl
  generalize cp c = B at hB ⊢
  by_cases h1 : 65 ≤ c
  · rw [decide_eq_true h1, Bool.true_and] at hB
    have q1 : decide (65 ≤ c) = true := decide_eq_true h1
    by_cases h2 : c ≤ 90
    · rw [decide_eq_true h2] at hB
      have q2 : decide (c ≤ 90) = true := decide_eq_true h2
      subst hB
      clear h1 h2
      go_enter Tryd.func19, Tryd.ntmps19
      go_wp2
      go_ret
      exact ⟨rfl, rfl⟩
    · rw [decide_eq_false h2] at hB
      have q2 : decide (c ≤ 90) = false := decide_eq_false h2
      subst hB
      clear h1 h2
      go_enter Tryd.func19, Tryd.ntmps19
      go_wp2
      go_ret
      exact ⟨rfl, rfl⟩
  · rw [decide_eq_false h1, Bool.false_and] at hB
    have q1 : decide (65 ≤ c) = false := decide_eq_false h1
    subst hB
    clear h1
    go_enter Tryd.func19, Tryd.ntmps19
    go_wp2
    go_ret
    exact ⟨rfl, rfl⟩
theorem pDigit (c : Int) (w : World) : Calls Tryd.prog 15 #[.int .i32 c] w fun e w' => e = .returned (.bool (dg c)) ∧ w' = w := by
  have hB : dg c = (decide (48 ≤ c) && decide (c ≤ 57)) := rfl
  generalize dg c = B at hB ⊢
  by_cases h1 : 48 ≤ c
  · rw [decide_eq_true h1, Bool.true_and] at hB
    have q1 : decide (48 ≤ c) = true := decide_eq_true h1
    by_cases h2 : c ≤ 57
    · rw [decide_eq_true h2] at hB
      have q2 : decide (c ≤ 57) = true := decide_eq_true h2
      subst hB
      clear h1 h2
      go_enter Tryd.func15, Tryd.ntmps15
      go_wp2
      go_ret
      exact ⟨rfl, rfl⟩
    · rw [decide_eq_false h2] at hB
      have q2 : decide (c ≤ 57) = false := decide_eq_false h2
      subst hB
      clear h1 h2
      go_enter Tryd.func15, Tryd.ntmps15
      go_wp2
      go_ret
      exact ⟨rfl, rfl⟩
  · rw [decide_eq_false h1, Bool.false_and] at hB
    have q1 : decide (48 ≤ c) = false := decide_eq_false h1
    subst hB
    clear h1
    go_enter Tryd.func15, Tryd.ntmps15
    go_wp2
    go_ret
    exact ⟨rfl, rfl⟩
theorem rSmall (c : Int) (w : World) : Calls Tryd.prog 22 #[.int .u8 c] w fun e w' => e = .returned (.bool (sm c)) ∧ w' = w := by
  have hB : sm c = (decide (97 ≤ c) && decide (c ≤ 122)) := rfl
  generalize sm c = B at hB ⊢
  by_cases h1 : 97 ≤ c
  · rw [decide_eq_true h1, Bool.true_and] at hB
    have q1 : decide (c ≥ 97) = true := decide_eq_true h1
    by_cases h2 : c ≤ 122
    · rw [decide_eq_true h2] at hB
      have q2 : decide (c ≤ 122) = true := decide_eq_true h2
      subst hB
      clear h1 h2
      go_enter Tryd.func22, Tryd.ntmps22
      go_wp2
      go_ret
      exact ⟨rfl, rfl⟩
    · rw [decide_eq_false h2] at hB
      have q2 : decide (c ≤ 122) = false := decide_eq_false h2
      subst hB
      clear h1 h2
      go_enter Tryd.func22, Tryd.ntmps22
      go_wp2
      go_ret
      exact ⟨rfl, rfl⟩
  · rw [decide_eq_false h1, Bool.false_and] at hB
    have q1 : decide (c ≥ 97) = false := decide_eq_false h1
    subst hB
    clear h1
    go_enter Tryd.func22, Tryd.ntmps22
    go_wp2
    go_ret
    exact ⟨rfl, rfl⟩
theorem rCapital (c : Int) (w : World) : Calls Tryd.prog 23 #[.int .u8 c] w fun e w' => e = .returned (.bool (cp c)) ∧ w' = w := by
  have hB : cp c = (decide (65 ≤ c) && decide (c ≤ 90)) := rfl
  generalize cp c = B at hB ⊢
  by_cases h1 : 65 ≤ c
  · rw [decide_eq_true h1, Bool.true_and] at hB
    have q1 : decide (c ≥ 65) = true := decide_eq_true h1
    by_cases h2 : c ≤ 90
    · rw [decide_eq_true h2] at hB
      have q2 : decide (c ≤ 90) = true := decide_eq_true h2
      subst hB
      clear h1 h2
      go_enter Tryd.func23, Tryd.ntmps23
      go_wp2
      go_ret
      exact ⟨rfl, rfl⟩
    · rw [decide_eq_false h2] at hB
      have q2 : decide (c ≤ 90) = false := decide_eq_false h2
      subst hB
      clear h1 h2
      go_enter Tryd.func23, Tryd.ntmps23
      go_wp2
      go_ret
      exact ⟨rfl, rfl⟩
  · rw [decide_eq_false h1, Bool.false_and] at hB
    have q1 : decide (c ≥ 65) = false := decide_eq_false h1
    subst hB
    clear h1
    go_enter Tryd.func23, Tryd.ntmps23
    go_wp2
    go_ret
    exact ⟨rfl, rfl⟩
theorem rDigit (c : Int) (w : World) : Calls Tryd.prog 26 #[.int .u8 c] w fun e w' => e = .returned (.bool (dg c)) ∧ w' = w := by
  have hB : dg c = (decide (48 ≤ c) && decide (c ≤ 57)) := rfl
  generalize dg c = B at hB ⊢
  by_cases h1 : 48 ≤ c
  · rw [decide_eq_true h1, Bool.true_and] at hB
    have q1 : decide (c ≥ 48) = true := decide_eq_true h1
    by_cases h2 : c ≤ 57
    · rw [decide_eq_true h2] at hB
      have q2 : decide (c ≤ 57) = true := decide_eq_true h2
      subst hB
      clear h1 h2
      go_enter Tryd.func26, Tryd.ntmps26
      go_wp2
      go_ret
      exact ⟨rfl, rfl⟩
    · rw [decide_eq_false h2] at hB
      have q2 : decide (c ≤ 57) = false := decide_eq_false h2
      subst hB
      clear h1 h2
      go_enter Tryd.func26, Tryd.ntmps26
      go_wp2
      go_ret
      exact ⟨rfl, rfl⟩
  · rw [decide_eq_false h1, Bool.false_and] at hB
    have q1 : decide (c ≥ 48) = false := decide_eq_false h1
    subst hB
    clear h1
    go_enter Tryd.func26, Tryd.ntmps26
    go_wp2
    go_ret
    exact ⟨rfl, rfl⟩
theorem pBlank (c : Int) (w : World) : Calls Tryd.prog 14 #[.int .i32 c] w fun e w' => e = .returned (.bool (bl c)) ∧ w' = w := by
  have hB : bl c = (c == 9 || c == 10 || c == 13 || c == 32) := rfl
  generalize bl c = B at hB ⊢
  cases q0 : c == 9 with
  | true =>
    have hB : B = true := by rw [hB, q0]; cases (c == 10) <;> cases (c == 13) <;> cases (c == 32) <;> rfl
    go_enter Tryd.func14, Tryd.ntmps14
    go_wp2
    go_ret
    exact ⟨ret_bool hB.symm, rfl⟩
  | false =>
    cases q1 : c == 10 with
    | true =>
      have hB : B = true := by rw [hB, q0, q1]; cases (c == 10) <;> cases (c == 13) <;> cases (c == 32) <;> rfl
      go_enter Tryd.func14, Tryd.ntmps14
      go_wp2
      go_ret
      exact ⟨ret_bool hB.symm, rfl⟩
    | false =>
      cases q2 : c == 13 with
      | true =>
        have hB : B = true := by rw [hB, q0, q1, q2]; cases (c == 10) <;> cases (c == 13) <;> cases (c == 32) <;> rfl
        go_enter Tryd.func14, Tryd.ntmps14
        go_wp2
        go_ret
        exact ⟨ret_bool hB.symm, rfl⟩
      | false =>
        cases q3 : c == 32 with
        | true =>
          have hB : B = true := by rw [hB, q0, q1, q2, q3]; rfl
          go_enter Tryd.func14, Tryd.ntmps14
          go_wp2
          go_ret
          exact ⟨ret_bool hB.symm, rfl⟩
        | false =>
          have hB : B = false := by rw [hB, q0, q1, q2, q3]; rfl
          go_enter Tryd.func14, Tryd.ntmps14
          go_wp2
          go_ret
          exact ⟨ret_bool hB.symm, rfl⟩
set_option maxHeartbeats 1000000 in
theorem rPart (c : Int) (w : World) : Calls Tryd.prog 32 #[.int .u8 c] w fun e w' => e = .returned (.bool (pt c)) ∧ w' = w := by
  have hB : pt c = (sm c || cp c || dg c || c == 95) := rfl
  have H1 := hideR (rSmall c w)
  have H2 := hideR (rCapital c w)
  have H3 := hideR (rDigit c w)
  generalize pt c = B at hB ⊢
  generalize sm c = b1 at *
  generalize cp c = b2 at *
  generalize dg c = b3 at *
  cases q4 : c == 95 <;> cases b1 <;> cases b2 <;> cases b3 <;>
  · rw [q4] at hB
    go_enter Tryd.func32, Tryd.ntmps32
    repeat
      first
      | (go_wp2_with fail; refine H1.out.mono ?_; rintro e u ⟨rfl, rfl⟩)
      | (go_wp2_with fail; refine H2.out.mono ?_; rintro e u ⟨rfl, rfl⟩)
      | (go_wp2_with fail; refine H3.out.mono ?_; rintro e u ⟨rfl, rfl⟩)
    go_wp2
    go_ret
    exact ⟨ret_bool (by rw [hB]; rfl), rfl⟩
theorem isIn_wr (n : Int) : isIn n = ((n + 1073741824) % 2147483648 - 1073741824 == n) := by
  unfold isIn
  rw [Bool.eq_iff_iff]
  simp only [Bool.and_eq_true, decide_eq_true_eq, beq_iff_eq]
  omega
theorem pWrap (n : Int) (w : World) (h0 : -9223372036854775808 ≤ n) (h1 : n ≤ 9223372036854775807) : Calls Tryd.prog 35 #[.int .i64 n] w fun e w' => e = .returned (.int .i64 ((n + 1073741824) % 2147483648 - 1073741824)) ∧ w' = w := by
  go_enter Tryd.func35, Tryd.ntmps35
  go_wp2
  go_ret
  exact ⟨ret_int (by unfold wrap64; omega), rfl⟩
theorem pIn (n : Int) (w : World) (h0 : -9223372036854775808 ≤ n) (h1 : n ≤ 9223372036854775807) : Calls Tryd.prog 29 #[.int .i64 n] w fun e w' => e = .returned (.bool (isIn n)) ∧ w' = w := by
  rw [isIn_wr]
  have H := hideR (pWrap n w h0 h1)
  generalize (n + 1073741824) % 2147483648 - 1073741824 = m at *
  go_enter Tryd.func29, Tryd.ntmps29
  go_wp2_with fail
  refine H.out.mono ?_
  rintro e u ⟨rfl, rfl⟩
  go_wp2
  go_ret
  exact ⟨rfl, rfl⟩
theorem rIn (c : Int) (w : World) : Calls Tryd.prog 34 #[.int .i64 c] w fun e w' => e = .returned (.bool (isIn c)) ∧ w' = w := by
  have hB : isIn c = (decide (-1073741824 ≤ c) && decide (c ≤ 1073741823)) := rfl
  generalize isIn c = B at hB ⊢
  by_cases h1 : -1073741824 ≤ c
  · rw [decide_eq_true h1, Bool.true_and] at hB
    have q1 : decide (c ≥ -1073741824) = true := decide_eq_true h1
    by_cases h2 : c ≤ 1073741823
    · rw [decide_eq_true h2] at hB
      have q2 : decide (c ≤ 1073741823) = true := decide_eq_true h2
      subst hB
      clear h1 h2
      go_enter Tryd.func34, Tryd.ntmps34
      go_wp2
      go_ret
      exact ⟨rfl, rfl⟩
    · rw [decide_eq_false h2] at hB
      have q2 : decide (c ≤ 1073741823) = false := decide_eq_false h2
      subst hB
      clear h1 h2
      go_enter Tryd.func34, Tryd.ntmps34
      go_wp2
      go_ret
      exact ⟨rfl, rfl⟩
  · rw [decide_eq_false h1, Bool.false_and] at hB
    have q1 : decide (c ≥ -1073741824) = false := decide_eq_false h1
    subst hB
    clear h1
    go_enter Tryd.func34, Tryd.ntmps34
    go_wp2
    go_ret
    exact ⟨rfl, rfl⟩
end Go.Proofs.YtppjjbpiefkjlaaDoor
