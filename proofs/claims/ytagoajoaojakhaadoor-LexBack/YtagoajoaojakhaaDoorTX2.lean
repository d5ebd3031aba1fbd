/- Tokens as a text: an integer's spelling, a token's spelling. -/
import Derived.Test.YtagoajoaojakhaaDoorTX1
namespace Go.Proofs.YtagoajoaojakhaaDoor
open Go.RowKit Lx
set_option linter.unusedVariables false
namespace Lx
theorem dd_no : ∀ (m u : Nat), u ≤ m → ∀ b ∈ Lib.decDigits u, b ≠ 45
  | m, u, hm, b, hb => by
    by_cases h : u < 10
    · rw [dd_small h] at hb
      simp only [List.mem_singleton] at hb
      intro e
      have h1 := u8_dg h
      rw [← hb, e] at h1
      have : ((45 : UInt8).toNat : Int) = 45 := rfl
      omega
    · rw [dd_big h] at hb
      rcases List.mem_append.1 hb with hb | hb
      · match m, hm with
        | 0, hm => omega
        | m + 1, hm => exact dd_no m (u / 10) (by omega) b hb
      · simp only [List.mem_singleton] at hb
        intro e
        have h1 := u8_dg (show u % 10 < 10 by omega)
        rw [← hb, e] at h1
        have : ((45 : UInt8).toNat : Int) = 45 := rfl
        omega
theorem dd_count (u : Nat) : Lib.countByte (Lib.decDigits u) 45 = 0 := by
  unfold Lib.countByte
  rw [List.count_eq_zero]
  exact fun h => dd_no u u (Nat.le_refl _) 45 h rfl
theorem dd_len19 (u : Nat) (h : u ≤ 9223372036854775808) : (Lib.decDigits u).length ≤ 20 := dd_len 19 u (by omega)
theorem ext0 (s : ByteArray) : (s.extract 0 0).data.toList = [] := by simp
theorem ext1 (b : UInt8) (l : List UInt8) : ((⟨(b :: l).toArray⟩ : ByteArray).extract 1 (⟨(b :: l).toArray⟩ : ByteArray).size).data.toList = l := by
  rw [size_list]
  simp [ByteArray.data_extract]
theorem itx_neg {n : Int} (h : n < 0) : itL n = 126 :: Lib.decDigits n.natAbs := by unfold itL; rw [if_pos h]
theorem itoa_neg {n : Int} (h : n < 0) : Lib.itoa n = 45 :: Lib.decDigits n.natAbs := by unfold Lib.itoa; rw [if_pos h]
theorem itx_pos {n : Int} (h : ¬ n < 0) : itL n = Lib.decDigits n.toNat := by unfold itL; rw [if_neg h]
theorem itoa_pos {n : Int} (h : ¬ n < 0) : Lib.itoa n = Lib.decDigits n.toNat := by unfold Lib.itoa; rw [if_neg h]
end Lx
set_option maxRecDepth 100000 in
set_option maxHeartbeats 4000000 in
theorem sReplace0 (s : ByteArray) (hc : Lib.countByte s.data.toList 45 = 0) (w : World) : Calls Tryd.prog 21 #[.string s, .string ⟨#[45]⟩, .string ⟨#[126]⟩, .int .i64 1] w fun e w' => e = .returned (.string s) ∧ Below w.heap.size w w' := by
  have H := hideR (sCount s 45 w)
  rw [hc] at H
  have HB := hideR (Below.refl w.heap.size w)
  clear hc
  go_enter Tryd.func21, Tryd.ntmps21
  go_wp2_with fail
  refine H.out.mono ?_
  rintro e u ⟨rfl, rfl⟩
  go_wp2
  go_ret
  exact ⟨rfl, HB.out⟩
set_option maxRecDepth 100000 in
set_option maxHeartbeats 8000000 in
theorem sReplace1 (s X : ByteArray) (hz1 : 1 ≤ s.size) (hz : s.size ≤ 30) (hc : Lib.countByte s.data.toList 45 = 1) (hi : Lib.indexByte s.data.toList 45 = 0) (hX : X = ⟨(126 :: (s.extract 1 s.size).data.toList).toArray⟩) (w : World) : Calls Tryd.prog 21 #[.string s, .string ⟨#[45]⟩, .string ⟨#[126]⟩, .int .i64 1] w fun e w' => e = .returned (.string X) ∧ Below w.heap.size w w' := by
  have H := hideR (sCount s 45 w)
  rw [hc] at H
  have HI := fun (u : World) => hideR (sIndex s 45 u)
  rw [hi] at HI
  have hex : s.extract 0 s.size = s := by simp
  have hG := hideR (sGrow w.heap.size w.heap.size s.size _ (Nat.le_refl _) (heap_alloc_new w (.cells #[.pointer none, .slice none 0 0] 39)) (by simp) (by omega))
  have HBA := hideR ((Below.refl w.heap.size w).alloc (Nat.le_refl _) (.cells #[.pointer none, .slice none 0 0] 39))
  obtain ⟨E1, hE1⟩ : ∃ E, s.extract 1 s.size = E := ⟨_, rfl⟩
  have hE1z : E1.size ≤ 30 := by rw [← hE1, ByteArray.size_extract]; omega
  rw [hE1] at hX
  have HZ : Hid (1 ≤ s.size ∧ s.size ≤ 30 ∧ E1.size ≤ 30) := hideR ⟨hz1, hz, hE1z⟩
  have HX := hideR hX
  have n1 : (1 : Int) ≤ (s.size : Int) := by omega
  have hws : wrap64 (s.size : Int) = (s.size : Int) := by unfold wrap64; omega
  clear hX hE1z hc hi hz hz1
  go_enter Tryd.func21, Tryd.ntmps21
  go_wp2_with fail
  refine H.out.mono ?_
  rintro e u ⟨rfl, rfl⟩
  go_wp2_with fail
  refine Calls.mono (show Calls _ _ _ _ _ from hG.out) ?_
  rintro e u1 ⟨rfl, hb0, hb1⟩
  have H1 := hideR hb0
  have Hb1 := hideR (HBA.out.trans hb1)
  clear hb0 hb1 hG HBA
  go_wp2_with fail
  go_loopw [11, 12, 53] (fun st jj i wx => ∃ k : Nat, k ≤ 1 ∧ st = .int .i64 k ∧ i = .int .i64 k ∧ Hid (IsB u.heap.size u.heap.size (if k = 0 then [] else [126]) wx) ∧ Hid (Below u.heap.size u wx)) (fun _ _ i _ => match i with | .int _ k => 1 - k.toNat | _ => 0)
  case atStart => exact ⟨0, by omega, rfl, rfl, H1, Hb1⟩
  case round =>
    obtain ⟨k, hk, rfl, rfl, HB, HW⟩ := hrel
    clear H1 Hb1
    have hBw : u.heap.size ≤ wr.heap.size := HW.out.size
    rcases Nat.eq_zero_or_pos k with h0 | h0
    · subst h0
      have hB0 := HB.out
      rw [if_pos rfl] at hB0
      have HW1 := hideR (sWriteS u.heap.size u.heap.size [] ByteArray.empty wr hB0 (by decide) hBw)
      clear hB0 HB
      go_wp2_with fail
      refine Calls.mono (show Calls _ _ _ _ _ from (HI _).out) ?_
      rintro e u2 ⟨rfl, rfl⟩
      go_wp2_with fail
      refine Calls.mono (show Calls _ _ _ _ _ from HW1.out) ?_
      rintro e u3 ⟨rfl, hb3, hw3⟩
      have HW3 := hideR (HW.out.trans hw3)
      have HW2 := hideR (sWriteS u.heap.size u.heap.size [] ⟨#[126]⟩ u3 hb3 (by decide) HW3.out.size)
      clear hb3 hw3 HW1
      go_wp2_with fail
      refine Calls.mono (show Calls _ _ _ _ _ from HW2.out) ?_
      rintro e u4 ⟨rfl, hb4, hw4⟩
      have HB4 := hideR hb4
      have HW4 := hideR (HW3.out.trans hw4)
      clear hb4 hw4 HW2 HW3
      go_wp2
      go_roundw
      case rel => exact ⟨1, Nat.le_refl _, by first | rfl | simp, by first | rfl | simp, HB4, HW4⟩
      case measure => simp
    · obtain rfl : k = 1 := by omega
      have hB0 := HB.out
      rw [if_neg (by decide)] at hB0
      have HW1 := hideR (sWriteS u.heap.size u.heap.size [126] E1 wr hB0 (by have := HZ.out.2.2; simp; omega) hBw)
      clear hB0 HB hk h0
      go_wp2_with fail
      refine Calls.mono (show Calls _ _ _ _ _ from HW1.out) ?_
      rintro e u3 ⟨rfl, hb3, hw3⟩
      have HW3 := hideR (HW.out.trans hw3)
      have HS := hideR (sString u.heap.size u.heap.size _ u3 hb3 HW3.out.size)
      clear hb3 hw3 HW1
      go_wp2_with fail
      refine Calls.mono (show Calls _ _ _ _ _ from HS.out) ?_
      rintro e u4 ⟨rfl, hw4⟩
      have HW4 := hideR (HW3.out.trans hw4)
      have hfin : (⟨([126] ++ E1.data.toList).toArray⟩ : ByteArray) = X := HX.out.symm
      rw [hfin]
      clear hw4 HW3 HS hfin
      go_wp2
      go_ret
      exact ⟨rfl, HW4.out⟩
theorem sReplace (n : Int) (h0 : -9223372036854775808 ≤ n) (h1 : n ≤ 9223372036854775807) (w : World) : Calls Tryd.prog 21 #[.string ⟨(Lib.itoa n).toArray⟩, .string ⟨#[45]⟩, .string ⟨#[126]⟩, .int .i64 1] w fun e w' => e = .returned (.string (itx n)) ∧ Below w.heap.size w w' := by
  unfold itx
  by_cases h : n < 0
  · rw [itoa_neg h, itx_neg h]
    have hl := dd_len19 n.natAbs (by omega)
    refine sReplace1 _ _ (by rw [size_list]; simp) (by rw [size_list]; simp; omega) ?_ ?_ ?_ w
    · show Lib.countByte (45 :: Lib.decDigits n.natAbs) 45 = 1
      have := dd_count n.natAbs
      unfold Lib.countByte at this ⊢
      rw [List.count_cons_self, this]
    · show Lib.indexByte (45 :: Lib.decDigits n.natAbs) 45 = 0
      rfl
    · rw [ext1]
  · rw [itoa_pos h, itx_pos h]
    exact sReplace0 _ (dd_count n.toNat) w
end Go.Proofs.YtagoajoaojakhaaDoor
