/- Tokens: blanks, remarks and words, gone through rune by rune. -/
import Derived.Test.YtppjjbpiefkjlaaDoorA2
import Derived.LoopTactic
namespace Go.Proofs.YtppjjbpiefkjlaaDoor
open Go.RowKit Lx
set_option linter.unusedVariables false
theorem iter_below (w : World) (s : ByteArray) (pos : Nat) : Below w.heap.size w (w.iter s pos) := (Below.refl _ w).alloc (Nat.le_refl _) _
theorem next_low {P : Program} (w : World) (s : ByteArray) (pos : Nat) (h : pos < s.size) (hb : bt s pos < 128) (ty : TypeId) :
    (Instr.next (.pointer (some ⟨w.heap.size, 0, none⟩)) true ty).run P (w.iter s pos) = .ok (.tuple #[.bool true, .int .i64 pos, .int .i32 (bt s pos)]) (w.iter s (pos + 1)) := by
  rw [run_next_any w s pos ty h, dec_low s pos h hb]
  have := bt_bd s pos
  rw [show (((bt s pos).toNat : Nat) : Int) = bt s pos by omega]
theorem bl_high {c : Int} (h : 128 ≤ c) : bl c = false := by
  unfold bl
  rw [beq_eq_false_iff_ne.2 (by omega : c ≠ 9), beq_eq_false_iff_ne.2 (by omega : c ≠ 10), beq_eq_false_iff_ne.2 (by omega : c ≠ 13), beq_eq_false_iff_ne.2 (by omega : c ≠ 32)]
  rfl
theorem sm_high {c : Int} (h : 128 ≤ c) : sm c = false := by unfold sm; rw [decide_eq_false (by omega : ¬ c ≤ 122), Bool.and_false]
theorem cp_high {c : Int} (h : 128 ≤ c) : cp c = false := by unfold cp; rw [decide_eq_false (by omega : ¬ c ≤ 90), Bool.and_false]
theorem dg_high {c : Int} (h : 128 ≤ c) : dg c = false := by unfold dg; rw [decide_eq_false (by omega : ¬ c ≤ 57), Bool.and_false]
theorem pt_high {c : Int} (h : 128 ≤ c) : pt c = false := by unfold pt; rw [sm_high h, cp_high h, dg_high h, beq_eq_false_iff_ne.2 (by omega : c ≠ 95)]; rfl
set_option maxHeartbeats 2000000 in
theorem pGap (s : ByteArray) (w : World) : Calls Tryd.prog 10 #[.string s] w fun e w' => e = .returned (.int .i64 (sk s false 0 : Nat)) ∧ Below w.heap.size w w' := by
  obtain ⟨R, hR⟩ : ∃ R, R = sk s false 0 := ⟨_, rfl⟩
  have st0 := hideR hR.symm
  rw [← hR]
  clear hR
  go_enter Tryd.func10, Tryd.ntmps10
  go_wp2
  go_loopw [3] (fun n w' => ∃ (pos : Nat) (c : Bool), w' = w.iter s pos ∧ n = .bool c ∧ pos ≤ s.size ∧ Hid (sk s c pos = R)) (fun _ w' => s.size - w'.iterPos w.heap.size)
  case atStart => exact ⟨0, false, rfl, rfl, Nat.zero_le _, st0⟩
  case round =>
    obtain ⟨pos, cm, rfl, rfl, hle, hR⟩ := hrel
    clear st0
    by_cases hp : pos < s.size
    · have hs := sk_step s cm hp
      rw [hR.out] at hs
      by_cases hb : bt s pos < 128
      · have hnx : ∀ ty, (Instr.next (.pointer (some ⟨w.heap.size, 0, none⟩)) true ty).run Tryd.prog (w.iter s pos) = _ := fun ty => next_low w s pos hp hb ty
        have HB := hideR (fun (c : Int) => pBlank c (w.iter s (pos + 1)))
        generalize bt s pos = c at *
        clear hb hR
        cases q1 : c == 10 with
        | true =>
          rw [if_pos (by simpa using q1)] at hs
          have HS := hideR hs
          clear hs
          go_wp2
          go_roundw
          case rel => exact ⟨pos + 1, false, rfl, rfl, hp, hideR HS.out.symm⟩
          case measure => simp; omega
        | false =>
          rw [if_neg (by simpa using q1)] at hs
          cases cm with
          | true =>
            rw [if_pos rfl] at hs
            have HS := hideR hs
            clear hs
            go_wp2
            go_roundw
            case rel => exact ⟨pos + 1, true, rfl, rfl, hp, hideR HS.out.symm⟩
            case measure => simp; omega
          | false =>
            rw [if_neg (by decide)] at hs
            cases q2 : c == 35 with
            | true =>
              rw [if_pos (by simpa using q2)] at hs
              have HS := hideR hs
              clear hs
              go_wp2
              go_roundw
              case rel => exact ⟨pos + 1, true, rfl, rfl, hp, hideR HS.out.symm⟩
              case measure => simp; omega
            | false =>
              rw [if_neg (by simpa using q2)] at hs
              have HC := hideR (HB.out c)
              clear HB
              cases q3 : bl c with
              | true =>
                rw [q3, if_pos rfl] at hs
                rw [q3] at HC
                have HS := hideR hs
                clear hs
                go_wp2_with fail
                refine HC.out.mono ?_
                rintro e u ⟨rfl, rfl⟩
                go_wp2
                go_roundw
                case rel => exact ⟨pos + 1, false, rfl, rfl, hp, hideR HS.out.symm⟩
                case measure => simp; omega
              | false =>
                rw [q3, if_neg (by decide)] at hs
                rw [q3] at HC
                have HS := hideR hs
                clear hs
                go_wp2_with fail
                refine HC.out.mono ?_
                rintro e u ⟨rfl, rfl⟩
                go_wp2
                go_ret
                exact ⟨ret_int (by rw [HS.out]), iter_below w s _⟩
      · obtain ⟨d1, d2, d3, d4⟩ := dec_high s pos hp hb
        have hnx : ∀ ty, (Instr.next (.pointer (some ⟨w.heap.size, 0, none⟩)) true ty).run Tryd.prog (w.iter s pos) = _ := fun ty => run_next_any w s pos ty hp
        have hrm : cm = true → R = sk s true (pos + (Utf8.decode s pos).2) := fun h => by
          subst h
          rw [← hR.out]
          exact sk_rem s _ pos d3 fun j h1 h2 h3 => by have := d4 j h1 h2; omega
        have HN := hideR (show cm = false → R = pos from fun h => by
          subst h
          rw [hs, if_neg (by omega), if_neg (by decide), if_neg (by omega), bl_high (by omega), if_neg (by decide)])
        have HRM := hideR hrm
        generalize (Utf8.decode s pos).2 = wd at *
        generalize ((Utf8.decode s pos).1 : Int) = c at *
        have q1 : (c == 10) = false := beq_eq_false_iff_ne.2 (by omega)
        have q2 : (c == 35) = false := beq_eq_false_iff_ne.2 (by omega)
        have HC := hideR (pBlank c (w.iter s (pos + wd)))
        rw [bl_high d1] at HC
        have D2 := hideR d2
        have D3 := hideR d3
        clear d1 d4 hs hb hR hrm d2 d3
        cases cm with
        | true =>
          have HRM2 := hideR (HRM.out rfl); clear HN HRM
          go_wp2
          go_roundw
          case rel => exact ⟨pos + wd, true, rfl, rfl, D3.out, hideR HRM2.out.symm⟩
          case measure => have := D2.out; have := D3.out; simp; omega
        | false =>
          have HN2 := hideR (HN.out rfl); clear HN HRM
          go_wp2_with fail
          refine HC.out.mono ?_
          rintro e u ⟨rfl, rfl⟩
          go_wp2
          go_ret
          exact ⟨ret_int (by rw [HN2.out]), iter_below w s _⟩
    · have hnx : ∀ ty, (Instr.next (.pointer (some ⟨w.heap.size, 0, none⟩)) true ty).run Tryd.prog (w.iter s pos) = _ := fun ty => run_next_end w s pos ty hp
      have hs := sk_end s cm hp
      rw [hR.out] at hs
      have HS := hideR (show R = s.size by omega)
      clear hs hR
      go_wp2
      go_ret
      exact ⟨ret_int (by rw [HS.out]), iter_below w s _⟩
end Go.Proofs.YtppjjbpiefkjlaaDoor
