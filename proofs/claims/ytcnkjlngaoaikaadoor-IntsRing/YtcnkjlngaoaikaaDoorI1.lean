/- The functions of ints and of the document, one by one. -/
import Derived.Test.YtcnkjlngaoaikaaDoorI0
namespace Go.Proofs.YtcnkjlngaoaikaaDoor
open Go.RowKit Ints
set_option linter.unusedVariables false
theorem ret_int {k : IntKind} {a b : Int} (h : a = b) : Ending.returned (.int k a) = .returned (.int k b) := by rw [h]
theorem hideR {p : Prop} (h : p) : Hid p := h
theorem ret_bool {a b : Bool} (h : a = b) : Ending.returned (.bool a) = .returned (.bool b) := by rw [h]
theorem ret_ib {a b : Int} {c d : Bool} (h : a = b) (h2 : c = d) : Ending.returned (.tuple #[.int .i64 a, .bool c]) = .returned (.tuple #[.int .i64 b, .bool d]) := by rw [h, h2]
theorem i64_add {x y : Int} (hx : -1073741824 ≤ x ∧ x ≤ 1073741823) (hy : -1073741824 ≤ y ∧ y ≤ 1073741823) : wrap64 (x + y) = x + y := by unfold wrap64; omega
theorem i64_sub {x y : Int} (hx : -1073741824 ≤ x ∧ x ≤ 1073741823) (hy : -1073741824 ≤ y ∧ y ≤ 1073741823) : wrap64 (x - y) = x - y := by unfold wrap64; omega
theorem i64_mul {x y : Int} (hx : -1073741824 ≤ x ∧ x ≤ 1073741823) (hy : -1073741824 ≤ y ∧ y ≤ 1073741823) : wrap64 (x * y) = x * y := by have := mul_bd hx hy; unfold wrap64; omega
theorem i64_div {x y : Int} (hx : -1073741824 ≤ x ∧ x ≤ 1073741823) : wrap64 (x.tdiv y) = x.tdiv y := by have := tdiv_bd (b := y) hx; unfold wrap64; omega
set_option maxHeartbeats 400000 in
theorem iWrap (n : Int) (w : World) (h0 : -9223372036854775808 ≤ n) (h1 : n ≤ 9223372036854775807) : Calls Tryd.prog 10 #[.int .i64 n] w fun e w' => e = .returned (.int .i64 (wr n)) ∧ w' = w := by
  go_enter Tryd.func10, Tryd.ntmps10
  go_wp2
  go_ret
  exact ⟨ret_int (by unfold wrap64 wr; omega), rfl⟩
set_option maxHeartbeats 400000 in
theorem rWrap (n : Int) (w : World) (h0 : -9223372036854775808 ≤ n) (h1 : n ≤ 9223372036854775807) : Calls Tryd.prog 11 #[.int .i64 n] w fun e w' => e = .returned (.int .i64 (wr n)) ∧ w' = w := by
  obtain ⟨t, ht⟩ : ∃ t, n.tmod 2147483648 = t := ⟨_, rfl⟩
  have hw : -2147483648 < t ∧ t < 2147483648 ∧ (t < -1073741824 → wr n = t + 2147483648) ∧ (-1073741824 ≤ t → 1073741823 < t → wr n = t - 2147483648) ∧ (-1073741824 ≤ t → t ≤ 1073741823 → wr n = t) := by
    rw [← ht]
    unfold wr
    rcases Int.le_total 0 n with h | h
    · rw [Int.tmod_eq_emod_of_nonneg h]; omega
    · rw [show n.tmod 2147483648 = -((-n) % 2147483648) by rw [← Int.tmod_eq_emod_of_nonneg (by omega), Int.neg_tmod, Int.neg_neg]]; omega
  generalize wr n = y at hw ⊢
  go_enter Tryd.func11, Tryd.ntmps11
  go_wp2
  all_goals (go_ret; exact ⟨ret_int (by first | omega | (unfold wrap64 at *; omega)), rfl⟩)
set_option maxHeartbeats 400000 in
theorem iIn (n : Int) (w : World) (h0 : -9223372036854775808 ≤ n) (h1 : n ≤ 9223372036854775807) : Calls Tryd.prog 8 #[.int .i64 n] w fun e w' => e = .returned (.bool (wr n == n)) ∧ w' = w := by
  go_enter Tryd.func8, Tryd.ntmps8
  go_wp2_with fail
  refine (iWrap n _ h0 h1).mono ?_
  rintro e u ⟨rfl, rfl⟩
  go_wp2
  go_ret
  exact ⟨rfl, rfl⟩
set_option maxHeartbeats 400000 in
theorem rIn (n : Int) (w : World) (h0 : -9223372036854775808 ≤ n) (h1 : n ≤ 9223372036854775807) : Calls Tryd.prog 9 #[.int .i64 n] w fun e w' => e = .returned (.bool (wr n == n)) ∧ w' = w := by
  have hb : (wr n == n) = (decide (-1073741824 ≤ n) && decide (n ≤ 1073741823)) := by
    rw [Bool.eq_iff_iff]; simp [wr_eq_iff]
  generalize (wr n == n) = B at hb ⊢
  by_cases h2 : -1073741824 ≤ n
  · by_cases h3 : n ≤ 1073741823
    · have q1 : decide (n ≥ -1073741824) = true := decide_eq_true h2
      have q2 : decide (n ≤ 1073741823) = true := decide_eq_true h3
      have hB : B = true := by rw [hb]; simp [h2, h3]
      clear hb
      go_enter Tryd.func9, Tryd.ntmps9
      go_wp2
      go_ret
      first | exact ⟨ret_bool hB.symm, rfl⟩ | exact ⟨rfl, rfl⟩
    · have q1 : decide (n ≥ -1073741824) = true := decide_eq_true h2
      have q2 : decide (n ≤ 1073741823) = false := decide_eq_false h3
      have hB : B = false := by rw [hb]; simp [h3]
      clear hb
      go_enter Tryd.func9, Tryd.ntmps9
      go_wp2
      go_ret
      first | exact ⟨ret_bool hB.symm, rfl⟩ | exact ⟨rfl, rfl⟩
  · have q1 : decide (n ≥ -1073741824) = false := decide_eq_false h2
    have hB : B = false := by rw [hb]; simp [h2]
    clear hb
    go_enter Tryd.func9, Tryd.ntmps9
    go_wp2
    go_ret
    first | exact ⟨ret_bool hB.symm, rfl⟩ | exact ⟨rfl, rfl⟩
set_option maxHeartbeats 400000 in
theorem iTruth (b : Bool) (w : World) : Calls Tryd.prog 20 #[.bool b] w fun e w' => e = .returned (.int .i64 (if b then 1 else 0)) ∧ w' = w := by
  cases b
  · go_enter Tryd.func20, Tryd.ntmps20
    go_wp2
    go_ret
    exact ⟨rfl, rfl⟩
  · go_enter Tryd.func20, Tryd.ntmps20
    go_wp2
    go_ret
    exact ⟨rfl, rfl⟩
set_option maxHeartbeats 1000000 in
theorem iDiv4 (a b : Int) (w : World) (ha : -1073741824 ≤ a ∧ a ≤ 1073741823) : Calls Tryd.prog 19 #[.int .i64 4, .int .i64 a, .int .i64 b] w fun e w' => e = .returned (.tuple #[.int .i64 (if b = 0 then 0 else wr (a.tdiv b)), .bool (!decide (b = 0))]) ∧ w' = w := by
  by_cases hb : b = 0
  · subst hb
    go_enter Tryd.func19, Tryd.ntmps19
    go_wp2
    go_ret2
    exact ⟨rfl, rfl⟩
  · have q1 : (b == 0) = false := by simp [hb]
    have hq := i64_div (y := b) ha
    have hd := tdiv_bd (b := b) ha
    rw [if_neg hb, decide_eq_false hb]
    have HW : Hid (∀ w : World, Calls Tryd.prog 10 #[.int .i64 (a.tdiv b)] w fun e w' => e = .returned (.int .i64 (wr (a.tdiv b))) ∧ w' = w) := hideR fun w => iWrap (a.tdiv b) w (by omega) (by omega)
    clear hd
    go_enter Tryd.func19, Tryd.ntmps19
    go_wp2_with fail
    rw [hq]
    refine (HW.out _).mono ?_
    rintro e u ⟨rfl, rfl⟩
    go_wp2
    go_ret2
    exact ⟨rfl, rfl⟩
set_option maxHeartbeats 1000000 in
theorem iDiv5 (a b : Int) (w : World) (ha : -1073741824 ≤ a ∧ a ≤ 1073741823) : Calls Tryd.prog 19 #[.int .i64 5, .int .i64 a, .int .i64 b] w fun e w' => e = .returned (.tuple #[.int .i64 (if b = 0 then 0 else a.tmod b), .bool (!decide (b = 0))]) ∧ w' = w := by
  by_cases hb : b = 0
  · subst hb
    go_enter Tryd.func19, Tryd.ntmps19
    go_wp2
    go_ret2
    exact ⟨rfl, rfl⟩
  · have q1 : (b == 0) = false := by simp [hb]
    rw [if_neg hb, decide_eq_false hb]
    go_enter Tryd.func19, Tryd.ntmps19
    go_wp2
    go_ret2
    exact ⟨rfl, rfl⟩
end Go.Proofs.YtcnkjlngaoaikaaDoor
