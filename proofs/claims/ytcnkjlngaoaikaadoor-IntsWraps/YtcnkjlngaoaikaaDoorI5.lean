/- The five laws. -/
import Derived.Test.YtcnkjlngaoaikaaDoorI4
namespace Go.Proofs.YtcnkjlngaoaikaaDoor
open Go.RowKit Ints
set_option linter.unusedVariables false
set_option maxHeartbeats 1000000 in
theorem wrapsC (n : Int) (w : World) (hW : WI w) (h0 : -9223372036854775808 ≤ n) (h1 : n ≤ 9223372036854775807) : Calls Tryd.prog 3 #[.int .i64 n] w fun e w' => e = .returned (.bool true) ∧ Below w.heap.size w w' := by
  have b1 := wr_bd n
  have A1 := hideR (fun w => iIn n w h0 h1)
  have A2 := hideR (fun w => rIn n w h0 h1)
  have A3 := hideR (fun w => iWrap n w h0 h1)
  have A4 := hideR (fun w => rWrap n w h0 h1)
  have A5 := hideR (fun w => iIn (wr n) w (by omega) (by omega))
  have A6 := hideR (iWakes w hW)
  rw [show (wr (wr n) == wr n) = true by rw [wr_wr]; simp] at A5
  clear hW b1 h0 h1
  generalize (wr n == n) = B at *
  generalize wr n = y at *
  go_enter Tryd.func3, Tryd.ntmps3
  go_wp2_with fail
  refine (A1.out _).mono ?_
  rintro e u ⟨rfl, rfl⟩
  go_wp2_with fail
  refine (A2.out _).mono ?_
  rintro e u ⟨rfl, rfl⟩
  go_wp2_with fail
  refine (A3.out _).mono ?_
  rintro e u ⟨rfl, rfl⟩
  go_wp2_with fail
  refine (A4.out _).mono ?_
  rintro e u ⟨rfl, rfl⟩
  go_wp2_with fail
  refine (A3.out _).mono ?_
  rintro e u ⟨rfl, rfl⟩
  go_wp2_with fail
  refine (A5.out _).mono ?_
  rintro e u ⟨rfl, rfl⟩
  go_wp2_with fail
  refine A6.out.mono ?_
  rintro e u ⟨rfl, rfl⟩
  go_wp2
  go_ret
  exact ⟨rfl, Below.refl _ _⟩
set_option maxHeartbeats 1000000 in
theorem doesC (op a b : Int) (w : World) (hW : WI w) (h0 : -9223372036854775808 ≤ op) (h1 : op ≤ 9223372036854775807) (a0 : -9223372036854775808 ≤ a) (a1 : a ≤ 9223372036854775807) (b0 : -9223372036854775808 ≤ b) (b1 : b ≤ 9223372036854775807) : Calls Tryd.prog 4 #[.int .i64 op, .int .i64 a, .int .i64 b] w fun e w' => e = .returned (.bool true) ∧ Below w.heap.size w w' := by
  have A1 := hideR (fun w => iDo op a b w a0 a1 b0 b1)
  have A2 := hideR (fun w => rDo op a b w a0 a1 b0 b1)
  have A6 := hideR (iWakes w hW)
  clear hW h0 h1 a0 a1 b0 b1
  generalize (dO op a b).1 = x at *
  generalize (dO op a b).2 = t at *
  go_enter Tryd.func4, Tryd.ntmps4
  go_wp2_with fail
  refine (A1.out _).mono ?_
  rintro e u ⟨rfl, rfl⟩
  go_wp2_with fail
  refine (A2.out _).mono ?_
  rintro e u ⟨rfl, rfl⟩
  go_wp2_with fail
  refine A6.out.mono ?_
  rintro e u ⟨rfl, rfl⟩
  go_wp2
  go_ret
  exact ⟨rfl, Below.refl _ _⟩
theorem op_word {op : Int} (h1 : 1 ≤ op) (h2 : op ≤ 7) : opOf (word op) = op := by
  have hc : op = 1 ∨ op = 2 ∨ op = 3 ∨ op = 4 ∨ op = 5 ∨ op = 6 ∨ op = 7 := by omega
  rcases hc with rfl | rfl | rfl | rfl | rfl | rfl | rfl <;> decide +kernel
set_option maxHeartbeats 1000000 in
theorem wordsC (op : Int) (s : ByteArray) (w : World) (hW : WI w) (h0 : -9223372036854775808 ≤ op) (h1 : op ≤ 9223372036854775807) : Calls Tryd.prog 5 #[.int .i64 op, .string s] w fun e w' => e = .returned (.bool true) ∧ Below w.heap.size w w' := by
  have HW := hideR hW
  clear hW h0 h1
  by_cases h1 : op < 1
  · have q1 : decide (op < 1) = true := decide_eq_true h1
    clear h1
    go_enter Tryd.func5, Tryd.ntmps5
    go_wp2_with fail
    refine (iWord op _ HW.out).mono ?_
    rintro e u ⟨rfl, rfl⟩
    go_wp2_with fail
    refine (rWord op _).mono ?_
    rintro e u1 ⟨rfl, hb⟩
    have HB := hideR hb
    have HW1 := hideR (HW.out.on hb)
    clear hb HW
    go_wp2_with fail
    refine (iOp s _ HW1.out).mono ?_
    rintro e u ⟨rfl, rfl⟩
    go_wp2_with fail
    refine (rOp s _).mono ?_
    rintro e u2 ⟨rfl, hb⟩
    have HB2 := hideR (bel_on HB.out hb)
    have HW2 := hideR (HW1.out.on hb)
    clear hb HW1 HB
    go_wp2_with fail
    refine (iWakes _ HW2.out).mono ?_
    rintro e u ⟨rfl, rfl⟩
    go_wp2
    go_ret
    exact ⟨rfl, HB2.out⟩
  · have q1 : decide (op < 1) = false := decide_eq_false h1
    by_cases h2 : 7 < op
    · have q2 : decide (op > 7) = true := decide_eq_true h2
      clear h1 h2
      go_enter Tryd.func5, Tryd.ntmps5
      go_wp2_with fail
      refine (iWord op _ HW.out).mono ?_
      rintro e u ⟨rfl, rfl⟩
      go_wp2_with fail
      refine (rWord op _).mono ?_
      rintro e u1 ⟨rfl, hb⟩
      have HB := hideR hb
      have HW1 := hideR (HW.out.on hb)
      clear hb HW
      go_wp2_with fail
      refine (iOp s _ HW1.out).mono ?_
      rintro e u ⟨rfl, rfl⟩
      go_wp2_with fail
      refine (rOp s _).mono ?_
      rintro e u2 ⟨rfl, hb⟩
      have HB2 := hideR (bel_on HB.out hb)
      have HW2 := hideR (HW1.out.on hb)
      clear hb HW1 HB
      go_wp2_with fail
      refine (iWakes _ HW2.out).mono ?_
      rintro e u ⟨rfl, rfl⟩
      go_wp2
      go_ret
      exact ⟨rfl, HB2.out⟩
    · have q2 : decide (op > 7) = false := decide_eq_false h2
      have HO := hideR (op_word (op := op) (by omega) (by omega))
      clear h1 h2
      go_enter Tryd.func5, Tryd.ntmps5
      go_wp2_with fail
      refine (iWord op _ HW.out).mono ?_
      rintro e u ⟨rfl, rfl⟩
      go_wp2_with fail
      refine (rWord op _).mono ?_
      rintro e u1 ⟨rfl, hb⟩
      have HB := hideR hb
      have HW1 := hideR (HW.out.on hb)
      clear hb HW
      go_wp2_with fail
      refine (iOp s _ HW1.out).mono ?_
      rintro e u ⟨rfl, rfl⟩
      go_wp2_with fail
      refine (rOp s _).mono ?_
      rintro e u2 ⟨rfl, hb⟩
      have HB2 := hideR (bel_on HB.out hb)
      have HW2 := hideR (HW1.out.on hb)
      clear hb HW1 HB
      go_wp2_with fail
      refine (iWord op _ HW2.out).mono ?_
      rintro e u ⟨rfl, rfl⟩
      go_wp2_with fail
      refine (iOp (word op) _ HW2.out).mono ?_
      rintro e u ⟨rfl, rfl⟩
      rw [HO.out]
      go_wp2_with fail
      refine (iWakes _ HW2.out).mono ?_
      rintro e u ⟨rfl, rfl⟩
      go_wp2
      go_ret
      exact ⟨rfl, HB2.out⟩
end Go.Proofs.YtcnkjlngaoaikaaDoor
