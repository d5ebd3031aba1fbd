/- The words: the program's table and the document's. -/
import Derived.Test.YtcnkjlngaoaikaaDoorI2
import Derived.Laws.Strings
namespace Go.Proofs.YtcnkjlngaoaikaaDoor
open Go.RowKit Ints
set_option linter.unusedVariables false
theorem bytes_ne {t s : ByteArray} (h : ¬ t = s) : (t.toList == s.toList) = false := by
  rw [beq_eq_false_iff_ne]
  intro e
  rw [ByteArray.toList_eq, ByteArray.toList_eq] at e
  exact h (ByteArray.ext (Array.toList_inj.1 e))
set_option maxHeartbeats 1000000 in
theorem iWord (op : Int) (w : World) (hW : WI w) : Calls Tryd.prog 15 #[.int .i64 op] w fun e w' => e = .returned (.string (word op)) ∧ w' = w := by
  by_cases h1 : op < 1
  · have q1 : decide (op < 1) = true := decide_eq_true h1
    rw [show word op = ⟨#[]⟩ from if_pos (.inl h1)]
    clear h1 hW
    go_enter Tryd.func15, Tryd.ntmps15
    go_wp2
    go_ret
    exact ⟨rfl, rfl⟩
  · have q1 : decide (op < 1) = false := decide_eq_false h1
    by_cases h2 : 7 < op
    · have q2 : decide (op > 7) = true := decide_eq_true h2
      rw [show word op = ⟨#[]⟩ from if_pos (.inr h2)]
      clear h2 hW
      go_enter Tryd.func15, Tryd.ntmps15
      go_wp2
      go_ret
      exact ⟨rfl, rfl⟩
    · have q2 : decide (op > 7) = false := decide_eq_false h2
      obtain ⟨k, rfl⟩ := Int.eq_ofNat_of_zero_le (show 0 ≤ op by omega)
      have hk : k < 8 := by omega
      have hc := hW k hk
      rw [show word (k : Int) = wrds.getD k ⟨#[]⟩ from if_neg (by omega)]
      generalize wrds.getD k ⟨#[]⟩ = t at *
      clear hW
      go_enter Tryd.func15, Tryd.ntmps15
      go_wp2
      go_ret
      exact ⟨rfl, rfl⟩
set_option maxHeartbeats 1000000 in
theorem iOp (s : ByteArray) (w : World) (hW : WI w) : Calls Tryd.prog 17 #[.string s] w fun e w' => e = .returned (.int .i64 (opOf s)) ∧ w' = w := by
  have HW := hideR hW
  have fin : Hid (∀ k : Nat, k = 8 → opF s (8 - k) k = 0) := hideR fun k h => by subst h; rfl
  have stp : Hid (∀ k : Nat, k < 8 → opF s (8 - k) k = if wrds.getD k ⟨#[]⟩ = s then (k : Int) else opF s (8 - (k + 1)) (k + 1)) := hideR fun k h => by
    obtain ⟨f, hf⟩ : ∃ f, 8 - k = f + 1 := ⟨7 - k, by omega⟩
    rw [hf, show 8 - (k + 1) = f by omega]
    rfl
  have st0 : Hid (opF s (8 - 1) 1 = opOf s) := hideR rfl
  clear hW
  generalize opOf s = R at *
  go_enter Tryd.func17, Tryd.ntmps17
  go_wp2_with fail
  go_loop [3] (fun a => ∃ k : Nat, a = .int .i64 k ∧ 1 ≤ k ∧ k ≤ 8 ∧ Hid (opF s (8 - k) k = R)) (fun a => match a with | .int _ k => (8 - k).toNat | _ => 0)
  case atStart => exact ⟨1, rfl, by omega, by omega, st0⟩
  case round =>
    obtain ⟨k, rfl, k0, k1, hk⟩ := hrel
    by_cases h7 : k < 8
    · have dl : decide ((k : Int) ≤ 7) = true := decide_eq_true (by omega)
      have hc := HW.out k h7
      have hs := stp.out k h7
      rw [hk.out] at hs
      have hwk : wrap64 ((k : Int) + 1) = (k : Int) + 1 := by unfold wrap64; omega
      by_cases ht : wrds.getD k ⟨#[]⟩ = s
      · rw [if_pos ht] at hs
        rw [ht] at hc
        have HS := hideR hs
        clear hs ht hk stp fin st0
        go_wp2
        go_ret
        exact ⟨ret_int HS.out.symm, rfl⟩
      · rw [if_neg ht] at hs
        have HS := hideR hs
        have q1 := bytes_ne ht
        generalize wrds.getD k ⟨#[]⟩ = t at *
        clear hs hk stp fin st0 ht
        go_wp2
        go_round
        case rel => exact ⟨k + 1, rfl, by omega, by omega, hideR HS.out.symm⟩
        case measure => simp only []; omega
    · have dl : decide ((k : Int) ≤ 7) = false := decide_eq_false (by omega)
      have hs := fin.out k (by omega)
      rw [hk.out] at hs
      have HS := hideR hs
      clear hs hk stp fin st0
      go_wp2
      go_ret
      exact ⟨ret_int HS.out.symm, rfl⟩
end Go.Proofs.YtcnkjlngaoaikaaDoor
