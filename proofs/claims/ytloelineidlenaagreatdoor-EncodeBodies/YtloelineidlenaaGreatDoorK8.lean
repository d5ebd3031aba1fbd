/- The document's words for sameness: of numbers. -/
import Derived.Test.YtloelineidlenaaGreatDoorK1
import Derived.Test.YtloelineidlenaaGreatDoorCount
import Derived.Deep.CutRange
import Derived.Deep.Cut
namespace Go.Proofs.YtloelineidlenaaGreatDoor
open Go.RowKit Rep
set_option linter.unusedVariables false
namespace Rep
theorem dec_on {α : Type} [DecidableEq α] {a b : List α} {j : Nat} {x y : α} {R : Bool} (hx : a[j]? = some x) (hy : b[j]? = some y) (h : R = decide (a.drop j = b.drop j)) : R = (decide (x = y) && decide (a.drop (j + 1) = b.drop (j + 1))) := by
  have hl : j < a.length := (List.getElem?_eq_some_iff.1 hx).1
  have he : a[j] = x := (List.getElem?_eq_some_iff.1 hx).2
  have hl2 : j < b.length := (List.getElem?_eq_some_iff.1 hy).1
  have he2 : b[j] = y := (List.getElem?_eq_some_iff.1 hy).2
  rw [h, List.drop_eq_getElem_cons hl, he, List.drop_eq_getElem_cons hl2, he2, ← Bool.decide_and]
  simp only [List.cons.injEq]
end Rep
set_option maxRecDepth 100000 in
set_option maxHeartbeats 1000000 in
theorem refKeep (va vb : Value) (a b : List Int) (w : World) (hA : Ints w va a) (hB : Ints w vb b) :
    Calls Tryz.prog 25 #[va, vb] w fun e w' => e = .returned (.bool (decide (a = b))) ∧ ∃ n, w' = w.drewN n := by
  have la := hA.1
  have lb := hB.1
  obtain ⟨oa, ca, rfl⟩ := Row.len hA
  obtain ⟨ob, cb, rfl⟩ := Row.len hB
  have HA := hideR hA
  have HB := hideR hB
  obtain ⟨R, hR⟩ : ∃ R, R = decide (a = b) := ⟨_, rfl⟩
  rw [← hR]
  have HR : Hid (R = decide (a.drop 0 = b.drop 0)) := hR
  have HL : Hid (a.length ≠ b.length → R = false) := hideR (fun h => by rw [hR, decide_eq_false (fun e => h (by rw [e]))])
  clear hA hB hR
  generalize hn : a.length = n at *
  generalize hm : b.length = k at *
  by_cases hne : n = k
  rotate_left
  · obtain rfl := HL.out hne
    have hne' : ((n : Int) != (k : Int)) = true := by rw [bne_iff_ne]; omega
    clear HR HL
    go_enter Tryz.func25, Tryz.ntmps25
    go_wp2
    go_ret
    exact ⟨rfl, 0, rfl⟩
  subst hne
  clear HL
  go_enter Tryz.func25, Tryz.ntmps25
  go_wp2_with fail
  go_loopw [5] (fun i wr => ∃ j q : Nat, j ≤ n ∧ i = .int .i64 j ∧ Hid (R = decide (a.drop j = b.drop j)) ∧ wr = w.drewN q) (fun i _ => n - (intOf i).toNat)
  case atStart => exact ⟨0, 0, by omega, rfl, HR, rfl⟩
  case round =>
    obtain ⟨j, q, hj, rfl, HK, rfl⟩ := hrel
    by_cases hgo : j < n
    · obtain ⟨b1, off1, cap1, hv1, hx1⟩ := Row.some HA.out (by omega)
      injection hv1 with ho1 e11 e12
      subst ho1
      obtain ⟨b2, off2, cap2, hv2, hx2⟩ := Row.some HB.out (by omega)
      injection hv2 with ho2 e21 e22
      subst ho2
      obtain ⟨x, hxk⟩ : ∃ x, a[j]? = some x := ⟨_, List.getElem?_eq_getElem (by omega)⟩
      obtain ⟨y, hyk⟩ : ∃ y, b[j]? = some y := ⟨_, List.getElem?_eq_getElem (by omega)⟩
      have k1 := hx1 j x hxk
      have k2 := hx2 j y hyk
      rw [Nat.mul_one] at k1 k2
      have HN := hideR (dec_on hxk hyk HK.out)
      clear hx1 hx2 hxk hyk HK e11 e12 e21 e22
      go_upto_region 6 with fail
      go_quiet (fail)
      by_cases hxy : x = y
      · subst hxy
        have HN2 : Hid (R = decide (a.drop (j + 1) = b.drop (j + 1))) := hideR (by rw [HN.out, decide_eq_true rfl, Bool.true_and])
        clear HN
        go_wp2
        go_roundw
        case rel => exact ⟨j + 1, q + nq, by omega, by go_num, HN2, by first | rfl | (rw [World.drewN_drewN])⟩
        case measure => simp [intOf]; omega
      · obtain rfl : R = false := by rw [HN.out, decide_eq_false hxy]; rfl
        have hxy' : (x != y) = true := by rw [bne_iff_ne]; exact hxy
        clear HN
        go_wp2
        go_ret
        exact ⟨rfl, q + nq, by first | rfl | (rw [World.drewN_drewN])⟩
    · obtain rfl : R = true := by rw [HK.out, List.drop_of_length_le (by omega), List.drop_of_length_le (by omega)]; rfl
      clear HK
      go_wp2
      go_ret
      exact ⟨rfl, q, rfl⟩
end Go.Proofs.YtloelineidlenaaGreatDoor
