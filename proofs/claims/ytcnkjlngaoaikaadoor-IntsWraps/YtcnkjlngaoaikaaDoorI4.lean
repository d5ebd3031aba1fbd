/- The document's words. -/
import Derived.Test.YtcnkjlngaoaikaaDoorI3
namespace Go.Proofs.YtcnkjlngaoaikaaDoor
open Go.RowKit Ints
set_option linter.unusedVariables false
theorem bel_on {w w1 w2 : World} (h1 : Below w.heap.size w w1) (h2 : Below w1.heap.size w1 w2) : Below w.heap.size w w2 := h1.trans (h2.mono h1.size)
theorem Ints.WI.on {w w' : World} (h : WI w) (hb : Below w.heap.size w w') : WI w' := fun k hk => by
  have hc := h k hk
  have h0 : 0 < w.heap.size := by
    unfold World.cell? at hc
    rcases Nat.eq_zero_or_pos w.heap.size with e | e
    · rw [Array.getElem?_eq_none (by simp [e])] at hc; cases hc
    · exact e
  unfold World.cell? at hc ⊢
  rw [hb.block 0 h0]
  exact hc
set_option maxHeartbeats 1000000 in
theorem rWords (w : World) : Calls Tryd.prog 21 #[] w fun e w' => ∃ g, e = .returned (.slice (some ⟨g, 0, none⟩) 8 8) ∧ Below w.heap.size w w' ∧ ∀ k, k < 8 → w'.cell? ⟨g, k, none⟩ = some (.string (wrds.getD k ⟨#[]⟩)) := by
  go_enter Tryd.func21, Tryd.ntmps21
  go_wp2
  go_ret
  refine ⟨_, rfl, (Below.refl _ _).alloc (Nat.le_refl _) _, fun k hk => ?_⟩
  have hc : k = 0 ∨ k = 1 ∨ k = 2 ∨ k = 3 ∨ k = 4 ∨ k = 5 ∨ k = 6 ∨ k = 7 := by omega
  rcases hc with rfl | rfl | rfl | rfl | rfl | rfl | rfl | rfl <;> simp <;> rfl
set_option maxHeartbeats 1000000 in
theorem rWord (op : Int) (w : World) : Calls Tryd.prog 16 #[.int .i64 op] w fun e w' => e = .returned (.string (word op)) ∧ Below w.heap.size w w' := by
  by_cases h1 : op < 1
  · have q1 : decide (op < 1) = true := decide_eq_true h1
    rw [show word op = ⟨#[]⟩ from if_pos (.inl h1)]
    clear h1
    go_enter Tryd.func16, Tryd.ntmps16
    go_wp2
    go_ret
    exact ⟨rfl, Below.refl _ _⟩
  · have q1 : decide (op < 1) = false := decide_eq_false h1
    by_cases h2 : 7 < op
    · have q2 : decide (op > 7) = true := decide_eq_true h2
      rw [show word op = ⟨#[]⟩ from if_pos (.inr h2)]
      clear h2
      go_enter Tryd.func16, Tryd.ntmps16
      go_wp2
      go_ret
      exact ⟨rfl, Below.refl _ _⟩
    · have q2 : decide (op > 7) = false := decide_eq_false h2
      obtain ⟨k, rfl⟩ := Int.eq_ofNat_of_zero_le (show 0 ≤ op by omega)
      have hk : k < 8 := by omega
      rw [show word (k : Int) = wrds.getD k ⟨#[]⟩ from if_neg (by omega)]
      have HW := hideR (rWords w)
      go_enter Tryd.func16, Tryd.ntmps16
      go_wp2_with fail
      refine HW.out.mono ?_
      rintro e u ⟨g, rfl, hb, hc⟩
      have hc := hc k hk
      generalize wrds.getD k ⟨#[]⟩ = t at *
      have HB := hideR hb
      clear hb HW
      go_wp2
      go_ret
      exact ⟨rfl, HB.out⟩
set_option maxHeartbeats 2000000 in
theorem rOp (s : ByteArray) (w : World) : Calls Tryd.prog 18 #[.string s] w fun e w' => e = .returned (.int .i64 (opOf s)) ∧ Below w.heap.size w w' := by
  have fin : Hid (∀ k : Nat, k = 8 → opF s (8 - k) k = 0) := hideR fun k h => by subst h; rfl
  have stp : Hid (∀ k : Nat, k < 8 → opF s (8 - k) k = if wrds.getD k ⟨#[]⟩ = s then (k : Int) else opF s (8 - (k + 1)) (k + 1)) := hideR fun k h => by
    obtain ⟨f, hf⟩ : ∃ f, 8 - k = f + 1 := ⟨7 - k, by omega⟩
    rw [hf, show 8 - (k + 1) = f by omega]
    rfl
  have st0 : Hid (opF s (8 - 1) 1 = opOf s) := hideR rfl
  generalize opOf s = R at *
  go_enter Tryd.func18, Tryd.ntmps18
  go_wp2_with fail
  go_loopw [3] (fun a wr => ∃ k : Nat, a = .int .i64 k ∧ 1 ≤ k ∧ k ≤ 8 ∧ Hid (opF s (8 - k) k = R) ∧ Hid (Below w.heap.size w wr)) (fun a wr => match a with | .int _ k => (8 - k).toNat | _ => 0)
  case atStart => exact ⟨1, rfl, by omega, by omega, st0, hideR (Below.refl _ _)⟩
  case round =>
    obtain ⟨k, rfl, k0, k1, hk, HB⟩ := hrel
    go_wp2_with fail
    refine (rWords _).mono ?_
    rintro e u1 ⟨g1, rfl, hb1, hc1⟩
    have HB1 := hideR (bel_on HB.out hb1)
    clear hb1 hc1 HB
    by_cases h7 : k < 8
    · have dl : decide ((k : Int) < 8) = true := decide_eq_true (by omega)
      have hs := stp.out k h7
      rw [hk.out] at hs
      have hwk : wrap64 ((k : Int) + 1) = (k : Int) + 1 := by unfold wrap64; omega
      go_wp2_with fail
      refine (rWords _).mono ?_
      rintro e u2 ⟨g2, rfl, hb2, hc2⟩
      have HB2 := hideR (bel_on HB1.out hb2)
      have hc := hc2 k h7
      clear hb2 hc2 HB1
      by_cases ht : wrds.getD k ⟨#[]⟩ = s
      · rw [if_pos ht] at hs
        rw [ht] at hc
        have HS := hideR hs
        clear hs ht hk stp fin st0
        go_wp2
        go_ret
        exact ⟨ret_int HS.out.symm, HB2.out⟩
      · rw [if_neg ht] at hs
        have HS := hideR hs
        have q1 := bytes_ne ht
        generalize wrds.getD k ⟨#[]⟩ = t at *
        clear hs hk stp fin st0 ht
        go_wp2
        go_roundw
        case rel => exact ⟨k + 1, rfl, by omega, by omega, hideR HS.out.symm, HB2⟩
        case measure => simp only []; omega
    · have dl : decide ((k : Int) < 8) = false := decide_eq_false (by omega)
      have hs := fin.out k (by omega)
      rw [hk.out] at hs
      have HS := hideR hs
      clear hs hk stp fin st0
      go_wp2
      go_ret
      exact ⟨ret_int HS.out.symm, HB1.out⟩
set_option maxHeartbeats 1000000 in
theorem iWakes (w : World) (hW : WI w) : Calls Tryd.prog 12 #[] w fun e w' => e = .returned (.bool true) ∧ w' = w := by
  have e1 : dO 4 (-1073741824) (-1) = (-1073741824, true) := by decide +kernel
  have e2 : dO 4 1 2147483648 = (0, false) := by decide +kernel
  have e3 : wr 1073741824 = -1073741824 := by decide +kernel
  have e4 : word 6 = ⟨#[60]⟩ := by decide +kernel
  have H1 := hideR (fun w => iDo 4 (-1073741824) (-1) w (by omega) (by omega) (by omega) (by omega))
  have H2 := hideR (fun w => iDo 4 1 2147483648 w (by omega) (by omega) (by omega) (by omega))
  have H3 := hideR (fun w => iWrap 1073741824 w (by omega) (by omega))
  have H4 := hideR (iWord 6 w hW)
  rw [e1] at H1
  rw [e2] at H2
  rw [e3] at H3
  rw [e4] at H4
  clear e1 e2 e3 e4 hW
  go_enter Tryd.func12, Tryd.ntmps12
  go_wp2_with fail
  refine (H1.out _).mono ?_
  rintro e u ⟨rfl, rfl⟩
  go_wp2_with fail
  refine (H2.out _).mono ?_
  rintro e u ⟨rfl, rfl⟩
  go_wp2_with fail
  refine (H3.out _).mono ?_
  rintro e u ⟨rfl, rfl⟩
  go_wp2_with fail
  refine H4.out.mono ?_
  rintro e u ⟨rfl, rfl⟩
  go_wp2
  go_ret
  exact ⟨rfl, rfl⟩
end Go.Proofs.YtcnkjlngaoaikaaDoor
