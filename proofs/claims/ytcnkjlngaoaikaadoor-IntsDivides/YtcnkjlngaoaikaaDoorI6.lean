/- The two laws of reckoning. -/
import Derived.Test.YtcnkjlngaoaikaaDoorI4
namespace Go.Proofs.YtcnkjlngaoaikaaDoor
open Go.RowKit Ints
set_option linter.unusedVariables false
theorem dO_wr (op a b : Int) (h : 1 ≤ op) (h3 : op ≤ 3) : dO op (wr a) (wr b) = dO op a b ∧ (dO op a b).2 = true ∧ wr (dO op a b).1 = (dO op a b).1 ∧ -1073741824 ≤ (dO op a b).1 ∧ (dO op a b).1 ≤ 1073741823 := by
  have hc : op = 1 ∨ op = 2 ∨ op = 3 := by omega
  rcases hc with rfl | rfl | rfl
  · rw [dO_1, dO_1, wr_add]; exact ⟨rfl, rfl, wr_wr _, wr_bd _⟩
  · rw [dO_2, dO_2, wr_sub]; exact ⟨rfl, rfl, wr_wr _, wr_bd _⟩
  · rw [dO_3, dO_3, wr_mul]; exact ⟨rfl, rfl, wr_wr _, wr_bd _⟩
theorem wr_addL (a b : Int) : wr (wr a + b) = wr (a + b) := by rw [← wr_add, wr_wr, wr_add]
theorem wr_mulR (a b : Int) : wr (a * wr b) = wr (a * b) := by rw [← wr_mul, wr_wr, wr_mul]
theorem wr_mulL (a b : Int) : wr (wr a * b) = wr (a * b) := by rw [← wr_mul, wr_wr, wr_mul]
theorem ring_eq (a b c : Int) : wr (a * wr (b + c)) = wr (wr (a * b) + wr (a * c)) := by rw [wr_mulR, wr_add, Int.mul_add]
theorem ring_sub (a b c : Int) : wr (wr (wr (a * b) + wr (a * c)) - wr (a * c)) = wr (a * b) := by
  rw [wr_add, wr_sub, Int.add_sub_cancel]
theorem div_eq (a b : Int) : wr (wr (wr ((wr a).tdiv (wr b)) * b) + (wr a).tmod (wr b)) = wr a := by
  rw [wr_addL, ← wr_addL (wr ((wr a).tdiv (wr b)) * b), wr_mulL, ← wr_mulR, wr_addL, Int.mul_comm, Int.mul_tdiv_add_tmod, wr_wr]
set_option maxHeartbeats 2000000 in
theorem ringC (a b c : Int) (w : World) (hW : WI w) (a0 : -9223372036854775808 ≤ a) (a1 : a ≤ 9223372036854775807) (b0 : -9223372036854775808 ≤ b) (b1 : b ≤ 9223372036854775807) (c0 : -9223372036854775808 ≤ c) (c1 : c ≤ 9223372036854775807) : Calls Tryd.prog 6 #[.int .i64 a, .int .i64 b, .int .i64 c] w fun e w' => e = .returned (.bool true) ∧ Below w.heap.size w w' := by
  have ba := wr_bd a
  have bb := wr_bd b
  have bs := wr_bd (b + c)
  have bp := wr_bd (a * b)
  have bq := wr_bd (a * c)
  have br := wr_bd (wr (a * b) + wr (a * c))
  have A1 := hideR (fun w => iWrap a w a0 a1)
  have A2 := hideR (fun w => iWrap b w b0 b1)
  have A3 := hideR (fun op w => iDo op a b w a0 a1 b0 b1)
  have A4 := hideR (fun op w => iDo op (wr a) (wr b) w (by omega) (by omega) (by omega) (by omega))
  have A5 : Hid (∀ (op : Int) (w : World), 1 ≤ op → op ≤ 3 → Calls Tryd.prog 8 #[.int .i64 (dO op a b).1] w fun e w' => e = .returned (.bool true) ∧ w' = w) := hideR (fun op w h h3 => by
    have hx := dO_wr op a b h h3
    refine (iIn (dO op a b).1 w (by omega) (by omega)).mono ?_
    rintro e w' ⟨rfl, rfl⟩
    exact ⟨ret_bool (by rw [hx.2.2.1]; simp), rfl⟩)
  have A6 := hideR (iWakes w hW)
  have B1 := hideR (fun w => iDo 1 b c w b0 b1 c0 c1)
  have B2 := hideR (fun w => iDo 3 a (wr (b + c)) w a0 a1 (by omega) (by omega))
  have B3 := hideR (fun w => iDo 3 a b w a0 a1 b0 b1)
  have B4 := hideR (fun w => iDo 3 a c w a0 a1 c0 c1)
  have B5 := hideR (fun w => iDo 1 (wr (a * b)) (wr (a * c)) w (by omega) (by omega) (by omega) (by omega))
  have B6 := hideR (fun w => iDo 2 (wr (wr (a * b) + wr (a * c))) (wr (a * c)) w (by omega) (by omega) (by omega) (by omega))
  rw [dO_1] at B1 B5
  rw [dO_3] at B2 B3 B4
  rw [dO_2, ring_sub] at B6
  rw [ring_eq] at B2
  have HX := hideR (fun op h h3 => dO_wr op a b h h3)
  clear hW ba bb bs bp bq br a0 a1 b0 b1 c0 c1
  generalize wr (wr (a * b) + wr (a * c)) = r at *
  generalize wr (a * b) = p at *
  generalize wr (a * c) = q at *
  generalize wr (b + c) = sm at *
  generalize hxa : wr a = x at *
  generalize hyb : wr b = y at *
  clear hxa hyb
  go_enter Tryd.func6, Tryd.ntmps6
  go_wp2_with fail
  go_loop [7] (fun v => ∃ k : Nat, v = .int .i64 k ∧ 1 ≤ k ∧ k ≤ 4) (fun v => match v with | .int _ k => (4 - k).toNat | _ => 0)
  case atStart => exact ⟨1, rfl, by omega, by omega⟩
  case round =>
    obtain ⟨k, rfl, k0, k1⟩ := hrel
    by_cases h3 : k < 4
    · have dl : decide ((k : Int) ≤ 3) = true := decide_eq_true (by omega)
      have hwk : wrap64 ((k : Int) + 1) = (k : Int) + 1 := by unfold wrap64; omega
      have hx := HX.out k (by omega) (by omega)
      have C3 := hideR (A3.out (k : Int))
      have C4 := hideR (A4.out (k : Int))
      have C5 := hideR (fun w => A5.out (k : Int) w (by omega) (by omega))
      rw [hx.1, hx.2.1] at C4
      rw [hx.2.1] at C3
      generalize (dO (k : Int) a b).1 = z at *
      clear hx HX A3 A4 A5 A6 B1 B2 B3 B4 B5 B6
      go_wp2_with fail
      refine (C3.out _).mono ?_
      rintro e u ⟨rfl, rfl⟩
      go_wp2_with fail
      refine (A1.out _).mono ?_
      rintro e u ⟨rfl, rfl⟩
      go_wp2_with fail
      refine (A2.out _).mono ?_
      rintro e u ⟨rfl, rfl⟩
      go_wp2_with fail
      refine (C4.out _).mono ?_
      rintro e u ⟨rfl, rfl⟩
      go_wp2_with fail
      refine (C5.out _).mono ?_
      rintro e u ⟨rfl, rfl⟩
      go_wp2
      go_round
      case rel => exact ⟨k + 1, rfl, by omega, by omega⟩
      case measure => simp only []; omega
    · have dl : decide ((k : Int) ≤ 3) = false := decide_eq_false (by omega)
      clear HX A1 A2 A3 A4 A5
      go_wp2_with fail
      refine (B1.out _).mono ?_
      rintro e u ⟨rfl, rfl⟩
      go_wp2_with fail
      refine (B2.out _).mono ?_
      rintro e u ⟨rfl, rfl⟩
      go_wp2_with fail
      refine (B3.out _).mono ?_
      rintro e u ⟨rfl, rfl⟩
      go_wp2_with fail
      refine (B4.out _).mono ?_
      rintro e u ⟨rfl, rfl⟩
      go_wp2_with fail
      refine (B5.out _).mono ?_
      rintro e u ⟨rfl, rfl⟩
      go_wp2_with fail
      refine (B6.out _).mono ?_
      rintro e u ⟨rfl, rfl⟩
      go_wp2_with fail
      refine A6.out.mono ?_
      rintro e u ⟨rfl, rfl⟩
      go_wp2
      go_ret
      exact ⟨rfl, Below.refl _ _⟩
set_option maxHeartbeats 2000000 in
theorem dividesC (a b : Int) (w : World) (hW : WI w) (a0 : -9223372036854775808 ≤ a) (a1 : a ≤ 9223372036854775807) (b0 : -9223372036854775808 ≤ b) (b1 : b ≤ 9223372036854775807) : Calls Tryd.prog 7 #[.int .i64 a, .int .i64 b] w fun e w' => e = .returned (.bool true) ∧ Below w.heap.size w w' := by
  have ba := wr_bd a
  have A1 := hideR (fun w => iDo 4 a b w a0 a1 b0 b1)
  have A2 := hideR (fun w => iDo 5 a b w a0 a1 b0 b1)
  have A3 := hideR (fun w => iWrap b w b0 b1)
  have A4 := hideR (fun w => iWrap a w a0 a1)
  have A6 := hideR (iWakes w hW)
  rw [dO_4] at A1
  rw [dO_5] at A2
  by_cases h0 : wr b = 0
  · rw [if_pos h0, decide_eq_true h0] at A1 A2
    rw [h0] at A3
    clear hW ba a0 a1 b0 b1 h0 A4
    go_enter Tryd.func7, Tryd.ntmps7
    go_wp2_with fail
    refine (A1.out _).mono ?_
    rintro e u ⟨rfl, rfl⟩
    go_wp2_with fail
    refine (A2.out _).mono ?_
    rintro e u ⟨rfl, rfl⟩
    go_wp2_with fail
    refine (A3.out _).mono ?_
    rintro e u ⟨rfl, rfl⟩
    go_wp2_with fail
    refine A6.out.mono ?_
    rintro e u ⟨rfl, rfl⟩
    go_wp2
    go_ret
    exact ⟨rfl, Below.refl _ _⟩
  · rw [if_neg h0, decide_eq_false h0] at A1 A2
    have bq := wr_bd ((wr a).tdiv (wr b))
    have br := tmod_bd (b := wr b) ba
    have bp := wr_bd (wr ((wr a).tdiv (wr b)) * b)
    have A7 := hideR (fun w => iDo 3 (wr ((wr a).tdiv (wr b))) b w (by omega) (by omega) b0 b1)
    have A8 := hideR (fun w => iDo 1 (wr (wr ((wr a).tdiv (wr b)) * b)) ((wr a).tmod (wr b)) w (by omega) (by omega) (by omega) (by omega))
    rw [dO_3] at A7
    rw [dO_1, div_eq] at A8
    clear hW ba a0 a1 b0 b1 bq br bp
    generalize wr (wr ((wr a).tdiv (wr b)) * b) = p at *
    generalize wr ((wr a).tdiv (wr b)) = q at *
    generalize (wr a).tmod (wr b) = r at *
    generalize wr a = x at *
    generalize wr b = y at *
    have q1 : (y != 0) = true := by simp [h0]
    have q2 : (y == 0) = false := by simp [h0]
    clear h0
    go_enter Tryd.func7, Tryd.ntmps7
    go_wp2_with fail
    refine (A1.out _).mono ?_
    rintro e u ⟨rfl, rfl⟩
    go_wp2_with fail
    refine (A2.out _).mono ?_
    rintro e u ⟨rfl, rfl⟩
    go_wp2_with fail
    refine (A7.out _).mono ?_
    rintro e u ⟨rfl, rfl⟩
    go_wp2_with fail
    refine (A8.out _).mono ?_
    rintro e u ⟨rfl, rfl⟩
    go_wp2_with fail
    refine (A4.out _).mono ?_
    rintro e u ⟨rfl, rfl⟩
    go_wp2_with fail
    refine (A3.out _).mono ?_
    rintro e u ⟨rfl, rfl⟩
    go_wp2_with fail
    refine A6.out.mono ?_
    rintro e u ⟨rfl, rfl⟩
    go_wp2
    go_ret
    exact ⟨rfl, Below.refl _ _⟩
end Go.Proofs.YtcnkjlngaoaikaaDoor
