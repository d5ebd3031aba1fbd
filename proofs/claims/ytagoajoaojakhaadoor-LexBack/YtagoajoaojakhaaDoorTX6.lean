/- Tokens as a text: the document's Word and Good: printed by gen_tx6.py. -/
import Derived.Test.YtagoajoaojakhaaDoorTX4
namespace Go.Proofs.YtagoajoaojakhaaDoor
open Go.RowKit Lx
set_option linter.unusedVariables false
namespace Lx
theorem wd_short {s : ByteArray} {b : Bool} (h : s.size < 1) : wd s b = false := by unfold wd; rw [decide_eq_false (by omega)]; rfl
theorem wd_long {s : ByteArray} {b : Bool} (h : 32 < s.size) : wd s b = false := by unfold wd; rw [decide_eq_false (show ¬ s.size ≤ 32 by omega)]; simp
theorem wd_head {s : ByteArray} {b : Bool} (h : (if b = true then sm (bt s 0) else cp (bt s 0)) = false) : wd s b = false := by unfold wd; rw [h]; simp
theorem wd_rest {s : ByteArray} {b : Bool} (h1 : 1 ≤ s.size) (h2 : s.size ≤ 32) (h : (if b = true then sm (bt s 0) else cp (bt s 0)) = true) : wd s b = decide (en s pt 1 = s.size) := by unfold wd; rw [decide_eq_true h1, decide_eq_true h2, h]; rfl
end Lx
set_option maxRecDepth 100000 in
set_option maxHeartbeats 4000000 in
theorem rWordA (s : ByteArray) (w : World) (b : Bool) (h : s.size < 1 ∨ 32 < s.size) : Calls Tryd.prog 24 #[.string s, .bool b] w fun e w' => e = .returned (.bool (wd s b)) ∧ w' = w := by
  rcases h with h | h
  · have q1 : decide ((s.size : Int) < 1) = true := decide_eq_true (by omega)
    rw [wd_short h]
    have hs : s = ⟨#[]⟩ := by apply ByteArray.ext; exact Array.eq_empty_of_size_eq_zero (show s.size = 0 by omega)
    subst hs
    clear h
    go_enter Tryd.func24, Tryd.ntmps24
    go_wp2
    go_ret
    exact ⟨rfl, rfl⟩
  · have q1 : decide ((s.size : Int) < 1) = false := decide_eq_false (by omega)
    have q1n : ¬ s.size < 1 := by omega
    have q1m : ¬ s.size = 0 := by omega
    have q2 : decide ((s.size : Int) > 32) = true := decide_eq_true (by omega)
    rw [wd_long h]
    go_enter Tryd.func24, Tryd.ntmps24
    go_wp2
    go_ret
    exact ⟨rfl, rfl⟩
set_option maxRecDepth 100000 in
set_option maxHeartbeats 4000000 in
theorem rWordT (s : ByteArray) (w : World) (h1 : 1 ≤ s.size) (h2 : s.size ≤ 32) : Calls Tryd.prog 24 #[.string s, .bool true] w fun e w' => e = .returned (.bool (wd s true)) ∧ w' = w := by
  have q1 : decide ((s.size : Int) < 1) = false := decide_eq_false (by omega)
  have q1m : ¬ s.size = 0 := by omega
  have q2 : decide ((s.size : Int) > 32) = false := decide_eq_false (by omega)
  have q2n : ¬ 32 < s.size := by omega
  have hx0 := fun (w : World) => idx0 s (by omega) w (P := Tryd.prog) 9 Tryd.underlying9
  have HC0 := hideR (rSmall (bt s 0) w)
  cases hc : sm (bt s 0) with
  | false =>
    rw [wd_head (b := true) (by first | (rw [if_pos rfl]; exact hc) | (rw [if_neg (by decide)]; exact hc))]
    rw [hc] at HC0
    generalize bt s 0 = c at *
    clear hc h1 h2
    go_enter Tryd.func24, Tryd.ntmps24
    go_wp2_with fail
    refine HC0.out.mono ?_
    rintro e u ⟨rfl, rfl⟩
    go_wp2
    go_ret
    exact ⟨rfl, rfl⟩
  | true =>
    rw [wd_rest (b := true) h1 h2 (by first | (rw [if_pos rfl]; exact hc) | (rw [if_neg (by decide)]; exact hc))]
    rw [hc] at HC0
    obtain ⟨R, hR⟩ : ∃ R, R = en s pt 1 := ⟨_, rfl⟩
    have st0 := hideR hR.symm
    rw [← hR]
    obtain ⟨RES, hRES⟩ : ∃ b, b = decide (R = s.size) := ⟨_, rfl⟩
    rw [← hRES]
    have HRES := hideR hRES
    obtain ⟨c, hcc⟩ : ∃ c, c = bt s 0 := ⟨_, rfl⟩
    rw [← hcc] at hx0 HC0
    have H1 := hideR h1
    have H2 := hideR h2
    clear hc hcc hR hRES h1 h2
    go_enter Tryd.func24, Tryd.ntmps24
    go_wp2_with fail
    refine HC0.out.mono ?_
    rintro e u ⟨rfl, rfl⟩
    go_wp2_with fail
    go_loop [5] (fun a => ∃ k : Nat, a = .int .i64 k ∧ k ≤ s.size ∧ Hid (en s pt k = R)) (fun a => match a with | .int _ k => s.size - k.toNat | _ => 0)
    case atStart => exact ⟨1, rfl, H1.out, st0⟩
    case round =>
      obtain ⟨k, rfl, hk, hR⟩ := hrel
      clear st0 hx0 HC0
      by_cases hp : k < s.size
      · have q3 : decide ((k : Int) < (s.size : Int)) = true := decide_eq_true (by omega)
        have hx := fun (w : World) => idx_bt s k hp w (P := Tryd.prog) 9 Tryd.underlying9
        have hw1 : wrap64 ((k : Int) + 1) = ((k + 1 : Nat) : Int) := by have := H2.out; unfold wrap64; omega
        have HC := hideR (rPart (bt s k) u)
        cases hb : pt (bt s k) with
        | true =>
          have HR := hideR (hR.out.symm.trans (en_on s pt hp hb))
          rw [hb] at HC
          generalize bt s k = c2 at *
          clear hb hR
          go_wp2_with fail
          refine HC.out.mono ?_
          rintro e u ⟨rfl, rfl⟩
          go_wp2
          go_round
          case rel => exact ⟨k + 1, by first | rfl | (congr 1), hp, hideR HR.out.symm⟩
          case measure => simp; omega
        | false =>
          have HR := hideR (hR.out.symm.trans (en_stop s pt hb))
          rw [hb] at HC
          generalize bt s k = c2 at *
          clear hb hR
          go_wp2_with fail
          refine HC.out.mono ?_
          rintro e u ⟨rfl, rfl⟩
          go_wp2
          go_ret
          exact ⟨ret_bool (by rw [HRES.out, HR.out]; exact (decide_eq_false (by omega)).symm), rfl⟩
      · have q3 : decide ((k : Int) < (s.size : Int)) = false := decide_eq_false (by omega)
        have HR := hideR (hR.out.symm.trans (en_end s pt hp))
        clear hR
        go_wp2
        go_ret
        exact ⟨ret_bool (by rw [HRES.out, HR.out]; exact (decide_eq_true (by omega)).symm), rfl⟩
set_option maxRecDepth 100000 in
set_option maxHeartbeats 4000000 in
theorem rWordF (s : ByteArray) (w : World) (h1 : 1 ≤ s.size) (h2 : s.size ≤ 32) : Calls Tryd.prog 24 #[.string s, .bool false] w fun e w' => e = .returned (.bool (wd s false)) ∧ w' = w := by
  have q1 : decide ((s.size : Int) < 1) = false := decide_eq_false (by omega)
  have q1m : ¬ s.size = 0 := by omega
  have q2 : decide ((s.size : Int) > 32) = false := decide_eq_false (by omega)
  have q2n : ¬ 32 < s.size := by omega
  have hx0 := fun (w : World) => idx0 s (by omega) w (P := Tryd.prog) 9 Tryd.underlying9
  have HC0 := hideR (rCapital (bt s 0) w)
  cases hc : cp (bt s 0) with
  | false =>
    rw [wd_head (b := false) (by first | (rw [if_pos rfl]; exact hc) | (rw [if_neg (by decide)]; exact hc))]
    rw [hc] at HC0
    generalize bt s 0 = c at *
    clear hc h1 h2
    go_enter Tryd.func24, Tryd.ntmps24
    go_wp2_with fail
    refine HC0.out.mono ?_
    rintro e u ⟨rfl, rfl⟩
    go_wp2
    go_ret
    exact ⟨rfl, rfl⟩
  | true =>
    rw [wd_rest (b := false) h1 h2 (by first | (rw [if_pos rfl]; exact hc) | (rw [if_neg (by decide)]; exact hc))]
    rw [hc] at HC0
    obtain ⟨R, hR⟩ : ∃ R, R = en s pt 1 := ⟨_, rfl⟩
    have st0 := hideR hR.symm
    rw [← hR]
    obtain ⟨RES, hRES⟩ : ∃ b, b = decide (R = s.size) := ⟨_, rfl⟩
    rw [← hRES]
    have HRES := hideR hRES
    obtain ⟨c, hcc⟩ : ∃ c, c = bt s 0 := ⟨_, rfl⟩
    rw [← hcc] at hx0 HC0
    have H1 := hideR h1
    have H2 := hideR h2
    clear hc hcc hR hRES h1 h2
    go_enter Tryd.func24, Tryd.ntmps24
    go_wp2_with fail
    refine HC0.out.mono ?_
    rintro e u ⟨rfl, rfl⟩
    go_wp2_with fail
    go_loop [5] (fun a => ∃ k : Nat, a = .int .i64 k ∧ k ≤ s.size ∧ Hid (en s pt k = R)) (fun a => match a with | .int _ k => s.size - k.toNat | _ => 0)
    case atStart => exact ⟨1, rfl, H1.out, st0⟩
    case round =>
      obtain ⟨k, rfl, hk, hR⟩ := hrel
      clear st0 hx0 HC0
      by_cases hp : k < s.size
      · have q3 : decide ((k : Int) < (s.size : Int)) = true := decide_eq_true (by omega)
        have hx := fun (w : World) => idx_bt s k hp w (P := Tryd.prog) 9 Tryd.underlying9
        have hw1 : wrap64 ((k : Int) + 1) = ((k + 1 : Nat) : Int) := by have := H2.out; unfold wrap64; omega
        have HC := hideR (rPart (bt s k) u)
        cases hb : pt (bt s k) with
        | true =>
          have HR := hideR (hR.out.symm.trans (en_on s pt hp hb))
          rw [hb] at HC
          generalize bt s k = c2 at *
          clear hb hR
          go_wp2_with fail
          refine HC.out.mono ?_
          rintro e u ⟨rfl, rfl⟩
          go_wp2
          go_round
          case rel => exact ⟨k + 1, by first | rfl | (congr 1), hp, hideR HR.out.symm⟩
          case measure => simp; omega
        | false =>
          have HR := hideR (hR.out.symm.trans (en_stop s pt hb))
          rw [hb] at HC
          generalize bt s k = c2 at *
          clear hb hR
          go_wp2_with fail
          refine HC.out.mono ?_
          rintro e u ⟨rfl, rfl⟩
          go_wp2
          go_ret
          exact ⟨ret_bool (by rw [HRES.out, HR.out]; exact (decide_eq_false (by omega)).symm), rfl⟩
      · have q3 : decide ((k : Int) < (s.size : Int)) = false := decide_eq_false (by omega)
        have HR := hideR (hR.out.symm.trans (en_end s pt hp))
        clear hR
        go_wp2
        go_ret
        exact ⟨ret_bool (by rw [HRES.out, HR.out]; exact (decide_eq_true (by omega)).symm), rfl⟩
theorem rWord (s : ByteArray) (b : Bool) (w : World) : Calls Tryd.prog 24 #[.string s, .bool b] w fun e w' => e = .returned (.bool (wd s b)) ∧ w' = w := by
  by_cases h1 : s.size < 1
  · exact rWordA s w b (.inl h1)
  · by_cases h2 : 32 < s.size
    · exact rWordA s w b (.inr h2)
    · cases b
      · exact rWordF s w (by omega) (by omega)
      · exact rWordT s w (by omega) (by omega)
end Go.Proofs.YtagoajoaojakhaaDoor
