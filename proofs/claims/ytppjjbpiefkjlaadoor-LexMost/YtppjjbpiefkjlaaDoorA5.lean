/- Tokens: the document's way behind blanks and remarks. -/
import Derived.Test.YtppjjbpiefkjlaaDoorA4
namespace Go.Proofs.YtppjjbpiefkjlaaDoor
open Go.RowKit Lx
set_option linter.unusedVariables false
set_option maxHeartbeats 4000000 in
theorem rSkip (s : ByteArray) (i : Nat) (hi : i ≤ s.size) (h63 : s.size < 9223372036854775807) (w : World) : Calls Tryd.prog 12 #[.string s, .int .i64 i] w fun e w' => e = .returned (.int .i64 (sk s false i : Nat)) ∧ w' = w := by
  obtain ⟨R, hR⟩ : ∃ R, R = sk s false i := ⟨_, rfl⟩
  have st0 := hideR hR.symm
  rw [← hR]
  clear hR
  go_enter Tryd.func12, Tryd.ntmps12
  go_wp2_with fail
  go_loop [1] (fun a => ∃ k : Nat, a = .int .i64 k ∧ k ≤ s.size ∧ Hid (sk s false k = R)) (fun a => match a with | .int _ k => s.size - k.toNat | _ => 0)
  case atStart => exact ⟨i, rfl, hi, st0⟩
  case round =>
    obtain ⟨k, rfl, hk, hR⟩ := hrel
    clear st0 hi
    by_cases hp : k < s.size
    · have q1 : decide ((k : Int) < (s.size : Int)) = true := decide_eq_true (by omega)
      have hx := fun (w : World) => idx_bt s k hp w (P := Tryd.prog) 9 Tryd.underlying9
      have hw1 : wrap64 ((k : Int) + 1) = ((k + 1 : Nat) : Int) := by unfold wrap64; omega
      have hs := sk_step s false hp
      rw [hR.out] at hs
      have hbb : bl (bt s k) = (bt s k == 9 || bt s k == 10 || bt s k == 13 || bt s k == 32) := rfl
      cases h1 : bl (bt s k) with
      | true =>
        have HR : Hid (R = sk s false (k + 1)) := by
          rw [h1] at hs
          by_cases h10 : bt s k = 10
          · rw [if_pos h10] at hs; exact hs
          · have h35 : bt s k ≠ 35 := fun e => by rw [e] at h1; cases h1
            rw [if_neg h10, if_neg (by decide), if_neg h35, if_pos rfl] at hs; exact hs
        rw [h1] at hbb
        generalize bt s k = c at *
        clear hs hR h1
        cases z1 : c == 9 with
        | true =>
          clear hbb
          go_wp2
          go_round
          case rel => exact ⟨k + 1, by first | rfl | (congr 1), hp, hideR HR.out.symm⟩
          case measure => simp; omega
        | false =>
          cases z2 : c == 10 with
          | true =>
            clear hbb
            go_wp2
            go_round
            case rel => exact ⟨k + 1, by first | rfl | (congr 1), hp, hideR HR.out.symm⟩
            case measure => simp; omega
          | false =>
            cases z3 : c == 13 with
            | true =>
              clear hbb
              go_wp2
              go_round
              case rel => exact ⟨k + 1, by first | rfl | (congr 1), hp, hideR HR.out.symm⟩
              case measure => simp; omega
            | false =>
              have z4 : (c == 32) = true := by rw [z1, z2, z3] at hbb; exact hbb.symm
              clear hbb
              go_wp2
              go_round
              case rel => exact ⟨k + 1, by first | rfl | (congr 1), hp, hideR HR.out.symm⟩
              case measure => simp; omega
      | false =>
        rw [h1] at hbb
        have z1 : (bt s k == 9) = false := by cases h : (bt s k == 9); rfl; rw [h] at hbb; simp at hbb
        have z2 : (bt s k == 10) = false := by cases h : (bt s k == 10); rfl; rw [h] at hbb; simp at hbb
        have z3 : (bt s k == 13) = false := by cases h : (bt s k == 13); rfl; rw [h] at hbb; simp at hbb
        have z4 : (bt s k == 32) = false := by cases h : (bt s k == 32); rfl; rw [h] at hbb; simp at hbb
        rw [if_neg (by simpa using z2), if_neg (by decide), h1] at hs
        cases z5 : bt s k == 35 with
        | false =>
          rw [if_neg (by simpa using z5), if_neg (by decide)] at hs
          have HR := hideR hs
          generalize bt s k = c at *
          clear hs hR h1 hbb
          go_wp2
          go_ret
          exact ⟨ret_int (by rw [HR.out]), rfl⟩
        | true =>
          rw [if_pos (by simpa using z5)] at hs
          have hT : sk s true k = sk s true (k + 1) := by rw [sk_step s true hp, if_neg (by simpa using z2), if_pos rfl]
          have HT := hideR (hT.trans hs.symm)
          have HZ := hideR z2
          have z2' := z2
          generalize hcc : bt s k = c at *
          have HCC := hideR hcc
          clear hs hR h1 hbb hT hcc z2'
          go_wp2_with fail
          go_loop [1] (fun a => ∃ j : Nat, a = .int .i64 j ∧ k ≤ j ∧ j ≤ s.size ∧ Hid (sk s true j = R)) (fun a => match a with | .int _ k => s.size - k.toNat | _ => 0)
          case atStart => exact ⟨k, rfl, Nat.le_refl _, hk, HT⟩
          case round =>
            obtain ⟨j, rfl, hj0, hj1, hJ⟩ := hrel
            clear hx HT z1 z2 z3 z4 z5 hw1 q1
            by_cases hjp : j < s.size
            · have q1 : decide ((j : Int) < (s.size : Int)) = true := decide_eq_true (by omega)
              have hx := fun (w : World) => idx_bt s j hjp w (P := Tryd.prog) 9 Tryd.underlying9
              have hw1 : wrap64 ((j : Int) + 1) = ((j + 1 : Nat) : Int) := by unfold wrap64; omega
              have hs := sk_step s true hjp
              rw [hJ.out] at hs
              by_cases h10 : bt s j = 10
              · rw [if_pos h10] at hs
                have hs2 : sk s false j = sk s false (j + 1) := by rw [sk_step s false hjp, if_pos h10]
                have HR := hideR (hs2.trans hs.symm)
                have hne : j ≠ k := fun e => by
                  subst e
                  have h := HZ.out
                  rw [← HCC.out, h10] at h
                  cases h
                have q2 : (bt s j != 10) = false := by rw [h10]; rfl
                generalize bt s j = d at *
                clear hs hs2 h10 hJ HZ HCC
                go_wp2
                go_round
                case rel => exact ⟨j, rfl, by omega, HR⟩
                case measure => simp; omega
              · rw [if_neg h10, if_pos rfl] at hs
                have HR := hideR hs
                have q2 : (bt s j != 10) = true := by unfold bne; rw [beq_eq_false_iff_ne.2 h10]; rfl
                generalize bt s j = d at *
                clear hs h10 hJ HZ HCC
                go_wp2
                go_round
                case rel => exact ⟨j + 1, by first | rfl | (congr 1), by omega, hjp, hideR HR.out.symm⟩
                case measure => simp; omega
            · have q1 : decide ((j : Int) < (s.size : Int)) = false := decide_eq_false (by omega)
              have hs := sk_end s true hjp
              rw [hJ.out] at hs
              have HR := hideR ((sk_end s false hjp).trans hs.symm)
              clear hs hJ HZ HCC
              go_wp2
              go_round
              case rel => exact ⟨j, rfl, hj1, HR⟩
              case measure => simp; omega
    · have q1 : decide ((k : Int) < (s.size : Int)) = false := decide_eq_false (by omega)
      have HR := hideR (hR.out.symm.trans (sk_end s false hp))
      clear hR
      go_wp2
      go_ret
      exact ⟨ret_int (by rw [HR.out]), rfl⟩
end Go.Proofs.YtppjjbpiefkjlaaDoor
