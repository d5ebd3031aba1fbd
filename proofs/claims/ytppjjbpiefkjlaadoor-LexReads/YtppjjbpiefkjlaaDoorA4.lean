/- Tokens: words and digits of the program; blanks, words and digits of the document. -/
import Derived.Test.YtppjjbpiefkjlaaDoorA3
namespace Go.Proofs.YtppjjbpiefkjlaaDoor
open Go.RowKit Lx
set_option linter.unusedVariables false
set_option maxHeartbeats 4000000 in
theorem pWord (s : ByteArray) (w : World) : Calls Tryd.prog 18 #[.string s] w fun e w' => e = .returned (.int .i64 (en s pt 0 : Nat)) ∧ Below w.heap.size w w' := by
  obtain ⟨R, hR⟩ : ∃ R, R = en s pt 0 := ⟨_, rfl⟩
  have st0 := hideR hR.symm
  rw [← hR]
  clear hR
  go_enter Tryd.func18, Tryd.ntmps18
  go_wp2
  go_loopw [2] (fun n w' => ∃ (pos : Nat), w' = w.iter s pos ∧ n = .int .i64 0 ∧ pos ≤ s.size ∧ Hid (en s pt pos = R)) (fun _ w' => s.size - w'.iterPos w.heap.size)
  case atStart => exact ⟨0, rfl, rfl, Nat.zero_le _, st0⟩
  case round =>
    obtain ⟨pos, rfl, rfl, hle, hR⟩ := hrel
    clear st0
    by_cases hp : pos < s.size
    · have key : ∃ (wd : Nat) (c : Int), (∀ ty, (Instr.next (.pointer (some ⟨w.heap.size, 0, none⟩)) true ty).run Tryd.prog (w.iter s pos) = .ok (.tuple #[.bool true, .int .i64 pos, .int .i32 c]) (w.iter s (pos + wd))) ∧ 1 ≤ wd ∧ pos + wd ≤ s.size ∧ (pt c = true → R = en s pt (pos + wd)) ∧ (pt c = false → R = pos) := by
        by_cases hb : bt s pos < 128
        · refine ⟨1, bt s pos, fun ty => next_low w s pos hp hb ty, Nat.le_refl _, hp, fun h => ?_, fun h => ?_⟩
          · rw [← hR.out, en_on s pt hp h]
          · rw [← hR.out, en_stop s pt h]
        · obtain ⟨d1, d2, d3, d4⟩ := dec_high s pos hp hb
          refine ⟨_, _, fun ty => run_next_any w s pos ty hp, d2, d3, fun h => ?_, fun h => ?_⟩
          · rw [pt_high d1] at h; cases h
          · rw [← hR.out]; exact en_stop s pt (pt_high (by omega))
      obtain ⟨wd, c, hnx, d2, d3, hY, hN⟩ := key
      have D2 := hideR d2
      have D3 := hideR d3
      have HY := hideR hY
      have HN := hideR hN
      have hB : pt c = (sm c || cp c || dg c || c == 95) := rfl
      have H1 := hideR (pSmall c (w.iter s (pos + wd)))
      have H2 := hideR (pCapital c (w.iter s (pos + wd)))
      have H3 := hideR (pDigit c (w.iter s (pos + wd)))
      clear hY hN d2 d3 hR
      generalize pt c = B at *
      generalize sm c = b1 at *
      generalize cp c = b2 at *
      generalize dg c = b3 at *
      cases b1 with
      | true =>
        have HR := hideR (HY.out (by rw [hB]; rfl))
        clear HY HN hB
        go_wp2_with fail
        refine H1.out.mono ?_
        rintro e u ⟨rfl, rfl⟩
        go_wp2
        go_roundw
        case rel => exact ⟨pos + wd, rfl, rfl, D3.out, hideR HR.out.symm⟩
        case measure => have := D2.out; have := D3.out; simp; omega
      | false =>
        cases b2 with
        | true =>
          have HR := hideR (HY.out (by rw [hB]; rfl))
          clear HY HN hB
          go_wp2_with fail
          refine H1.out.mono ?_
          rintro e u ⟨rfl, rfl⟩
          go_wp2_with fail
          refine H2.out.mono ?_
          rintro e u ⟨rfl, rfl⟩
          go_wp2
          go_roundw
          case rel => exact ⟨pos + wd, rfl, rfl, D3.out, hideR HR.out.symm⟩
          case measure => have := D2.out; have := D3.out; simp; omega
        | false =>
          cases b3 with
          | true =>
            have HR := hideR (HY.out (by rw [hB]; rfl))
            clear HY HN hB
            go_wp2_with fail
            refine H1.out.mono ?_
            rintro e u ⟨rfl, rfl⟩
            go_wp2_with fail
            refine H2.out.mono ?_
            rintro e u ⟨rfl, rfl⟩
            go_wp2_with fail
            refine H3.out.mono ?_
            rintro e u ⟨rfl, rfl⟩
            go_wp2
            go_roundw
            case rel => exact ⟨pos + wd, rfl, rfl, D3.out, hideR HR.out.symm⟩
            case measure => have := D2.out; have := D3.out; simp; omega
          | false =>
            cases q4 : c == 95 with
            | true =>
              have HR := hideR (HY.out (by rw [hB, q4]; rfl))
              have q5 : (c != 95) = false := by unfold bne; rw [q4]; rfl
              clear HY HN hB q4
              go_wp2_with fail
              refine H1.out.mono ?_
              rintro e u ⟨rfl, rfl⟩
              go_wp2_with fail
              refine H2.out.mono ?_
              rintro e u ⟨rfl, rfl⟩
              go_wp2_with fail
              refine H3.out.mono ?_
              rintro e u ⟨rfl, rfl⟩
              go_wp2
              go_roundw
              case rel => exact ⟨pos + wd, rfl, rfl, D3.out, hideR HR.out.symm⟩
              case measure => have := D2.out; have := D3.out; simp; omega
            | false =>
              have HR := hideR (HN.out (by rw [hB, q4]; rfl))
              have q5 : (c != 95) = true := by unfold bne; rw [q4]; rfl
              clear HY HN hB q4
              go_wp2_with fail
              refine H1.out.mono ?_
              rintro e u ⟨rfl, rfl⟩
              go_wp2_with fail
              refine H2.out.mono ?_
              rintro e u ⟨rfl, rfl⟩
              go_wp2_with fail
              refine H3.out.mono ?_
              rintro e u ⟨rfl, rfl⟩
              go_wp2
              go_ret
              exact ⟨ret_int (by rw [HR.out]), iter_below w s _⟩
    · have hnx : ∀ ty, (Instr.next (.pointer (some ⟨w.heap.size, 0, none⟩)) true ty).run Tryd.prog (w.iter s pos) = _ := fun ty => run_next_end w s pos ty hp
      have hs := en_end s pt hp
      rw [hR.out] at hs
      have HS := hideR (show R = s.size by omega)
      clear hs hR
      go_wp2
      go_ret
      exact ⟨ret_int (by rw [HS.out]), iter_below w s _⟩
theorem idx_bt (s : ByteArray) (i : Nat) (hi : i < s.size) (w : World) {P : Program} (t : TypeId) (h : P.underlying t = some .string) : (Instr.index t (.string s) (.int .i64 i)).run P w = .ok (.int .u8 (bt s i)) w := by
  rw [run_index_string w t s .i64 i h, dif_pos ⟨by omega, by omega⟩]
  congr 2
  exact get_bt s i hi
set_option maxHeartbeats 2000000 in
theorem rRun (s : ByteArray) (i : Nat) (hi : i ≤ s.size) (h63 : s.size < 9223372036854775807) (w : World) : Calls Tryd.prog 24 #[.string s, .int .i64 i] w fun e w' => e = .returned (.int .i64 (en s pt i : Nat)) ∧ w' = w := by
  obtain ⟨R, hR⟩ : ∃ R, R = en s pt i := ⟨_, rfl⟩
  have st0 := hideR hR.symm
  rw [← hR]
  clear hR
  go_enter Tryd.func24, Tryd.ntmps24
  go_wp2_with fail
  go_loop [1] (fun a => ∃ k : Nat, a = .int .i64 k ∧ k ≤ s.size ∧ Hid (en s pt k = R)) (fun a => match a with | .int _ k => s.size - k.toNat | _ => 0)
  case atStart => exact ⟨i, rfl, hi, st0⟩
  case round =>
    obtain ⟨k, rfl, hk, hR⟩ := hrel
    clear st0 hi
    by_cases hp : k < s.size
    · have q1 : decide ((k : Int) < (s.size : Int)) = true := decide_eq_true (by omega)
      have hx := fun (w : World) => idx_bt s k hp w (P := Tryd.prog) 9 Tryd.underlying9
      have hw1 : wrap64 ((k : Int) + 1) = ((k + 1 : Nat) : Int) := by unfold wrap64; omega
      have HC := hideR (rPart (bt s k) w)
      cases hb : pt (bt s k) with
      | true =>
        have HR := hideR (hR.out.symm.trans (en_on s pt hp hb))
        rw [hb] at HC
        generalize bt s k = c at *
        clear hb hR
        go_wp2_with fail
        refine HC.out.mono ?_
        rintro e u ⟨rfl, rfl⟩
        go_wp2
        go_round
        case rel => exact ⟨k + 1, by first | rfl | (congr 1), hp, hideR HR.out.symm⟩
        case measure => simp; omega
      | false =>
        have HR := hideR (hR.out.symm.trans (en_stop s pt hb))
        rw [hb] at HC
        generalize bt s k = c at *
        clear hb hR
        go_wp2_with fail
        refine HC.out.mono ?_
        rintro e u ⟨rfl, rfl⟩
        go_wp2
        go_ret
        exact ⟨ret_int (by rw [HR.out]), rfl⟩
    · have q1 : decide ((k : Int) < (s.size : Int)) = false := decide_eq_false (by omega)
      have HR := hideR (hR.out.symm.trans (en_end s pt hp))
      clear hR
      go_wp2
      go_ret
      exact ⟨ret_int (by rw [HR.out]), rfl⟩
end Go.Proofs.YtppjjbpiefkjlaaDoor
