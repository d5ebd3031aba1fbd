/- What the document's own small looks at numbers and lists of numbers tell: the plain functions; nothing is touched. -/
import Derived.Test.YtloelineidlenaaGreatDoorRep
namespace Go.Proofs.YtloelineidlenaaGreatDoor
open Go.RowKit Rep
set_option linter.unusedVariables false

namespace Rep
theorem hideM {p : Prop} (h : p) : Hid p := h
def idx (n : Int) : Bool := decide (0 ≤ n ∧ n ≤ 4294967295)
def typ (n : Int) : Bool := decide (n = 126 ∨ n = 127)
theorem all_end {α : Type} {p : α → Bool} {l : List α} {k : Nat} {r : Bool} (hk : ¬ k < l.length) (h : r = (l.drop k).all p) : r = true := by
  rw [h, List.drop_of_length_le (by omega)]; rfl
theorem all_on {α : Type} {p : α → Bool} {l : List α} {k : Nat} {r : Bool} {x : α} (hx : l[k]? = some x) (h : r = (l.drop k).all p) : r = (p x && (l.drop (k + 1)).all p) := by
  have hl : k < l.length := (List.getElem?_eq_some_iff.1 hx).1
  have he : l[k] = x := (List.getElem?_eq_some_iff.1 hx).2
  rw [h, List.drop_eq_getElem_cons hl, he, List.all_cons]
theorem retB {a b : Bool} (h : a = b) : Ending.returned (.bool a) = .returned (.bool b) := by rw [h]
end Rep

set_option maxHeartbeats 400000 in
theorem refIndex (n : Int) (w : World) : Calls Tryz.prog 97 #[.int .i64 n] w fun e w' => e = .returned (.bool (idx n)) ∧ w' = w := by
  go_enter Tryz.func97, Tryz.ntmps97
  go_wp2
  all_goals go_ret
  all_goals refine ⟨retB ?_, rfl⟩
  all_goals (unfold idx; rw [Bool.eq_iff_iff]; simp only [decide_eq_true_eq]; first | omega | (simp; omega))

set_option maxHeartbeats 400000 in
theorem refIn (n a b : Int) (w : World) : Calls Tryz.prog 101 #[.int .i64 n, .int .i64 a, .int .i64 b] w fun e w' => e = .returned (.bool (decide (a ≤ n ∧ n ≤ b))) ∧ w' = w := by
  go_enter Tryz.func101, Tryz.ntmps101
  go_wp2
  all_goals go_ret
  all_goals refine ⟨retB ?_, rfl⟩
  all_goals first | rfl | (rw [Bool.eq_iff_iff]; simp; done) | (rw [Bool.eq_iff_iff]; simp; omega) | (symm; simp; omega)

set_option maxHeartbeats 1000000 in
theorem refIndices (v : Value) (l : List Int) (w : World) (hAt : Ints w v l) :
    Calls Tryz.prog 102 #[v] w fun e w' => e = .returned (.bool (l.all idx)) ∧ w' = w := by
  have hlen := hAt.1
  obtain ⟨o, cap, hv⟩ := Row.len hAt
  have hs := Row.some hAt
  subst hv
  obtain ⟨R, hR⟩ : ∃ R, R = l.all idx := ⟨_, rfl⟩
  rw [← hR]
  have HR : Hid (R = (l.drop 0).all idx) := hR
  have HX := hideM hs
  clear hs hAt hR
  generalize hn : l.length = n at *
  go_enter Tryz.func102, Tryz.ntmps102
  go_wp2_with fail
  go_loopw [3] (fun i wr => ∃ k : Nat, k ≤ n ∧ i = .int .i64 k ∧ R = (l.drop k).all idx ∧ wr = w) (fun i _ => n - (intOf i).toNat)
  case atStart => exact ⟨0, by omega, rfl, HR.out, rfl⟩
  case round =>
    obtain ⟨k, hk, rfl, hrr, rfl⟩ := hrel
    have HK := hideM hrr
    clear hrr
    by_cases hgo : k < n
    · obtain ⟨b, off, cap2, hv2, hx⟩ := HX.out (by omega)
      injection hv2 with ho h2 h3
      subst ho
      obtain ⟨x, hxk⟩ : ∃ x, l[k]? = some x := ⟨_, List.getElem?_eq_getElem (by omega)⟩
      have hc := hx k x hxk
      rw [Nat.mul_one] at hc
      have HN := all_on hxk HK.out
      have i1 := hideM (refIndex x wr)
      clear hx hxk HK HX h2 h3
      generalize idx x = r1 at *
      have HN' := hideM HN
      clear HN
      go_wp2_with fail
      refine i1.out.mono ?_
      rintro e w1 ⟨rfl, rfl⟩
      cases r1
      · have hfin : R = false := by rw [HN'.out]; rfl
        go_wp2
        go_ret
        exact ⟨by first | rfl | (rw [hfin]; rfl), rfl⟩
      · go_wp2
        go_roundw
        case rel => exact ⟨k + 1, by omega, by go_num, by rw [HN'.out]; rfl, trivial⟩
        case measure => simp [intOf]; omega
    · have HE := all_end (by omega) HK.out
      clear HK
      go_wp2
      go_ret
      exact ⟨by first | rfl | (rw [HE]; rfl), rfl⟩

set_option maxHeartbeats 1000000 in
theorem refTypes (v : Value) (l : List Int) (w : World) (hAt : Ints w v l) :
    Calls Tryz.prog 96 #[v] w fun e w' => e = .returned (.bool (l.all typ)) ∧ w' = w := by
  have hlen := hAt.1
  obtain ⟨o, cap, hv⟩ := Row.len hAt
  have hs := Row.some hAt
  subst hv
  obtain ⟨R, hR⟩ : ∃ R, R = l.all typ := ⟨_, rfl⟩
  rw [← hR]
  have HR : Hid (R = (l.drop 0).all typ) := hR
  have HX := hideM hs
  clear hs hAt hR
  generalize hn : l.length = n at *
  go_enter Tryz.func96, Tryz.ntmps96
  go_wp2_with fail
  go_loopw [3] (fun i wr => ∃ k : Nat, k ≤ n ∧ i = .int .i64 k ∧ R = (l.drop k).all typ ∧ wr = w) (fun i _ => n - (intOf i).toNat)
  case atStart => exact ⟨0, by omega, rfl, HR.out, rfl⟩
  case round =>
    obtain ⟨k, hk, rfl, hrr, rfl⟩ := hrel
    have HK := hideM hrr
    clear hrr
    by_cases hgo : k < n
    · obtain ⟨b, off, cap2, hv2, hx⟩ := HX.out (by omega)
      injection hv2 with ho h2 h3
      subst ho
      obtain ⟨x, hxk⟩ : ∃ x, l[k]? = some x := ⟨_, List.getElem?_eq_getElem (by omega)⟩
      have hc := hx k x hxk
      rw [Nat.mul_one] at hc
      have HN := all_on hxk HK.out
      clear hx hxk HK HX h2 h3
      by_cases h1 : x = 126
      · have ht : typ x = true := by simp [typ, h1]
        rw [ht, Bool.true_and] at HN
        have HN' := hideM HN
        have hb : (x != 126) = false := by simp [h1]
        clear HN h1 ht
        go_wp2
        go_roundw
        case rel => exact ⟨k + 1, by omega, by go_num, HN'.out, trivial⟩
        case measure => simp [intOf]; omega
      · by_cases h2 : x = 127
        · have ht : typ x = true := by simp [typ, h2]
          rw [ht, Bool.true_and] at HN
          have HN' := hideM HN
          have hb : (x != 126) = true := by simp [h1]
          have hb2 : (x != 127) = false := by simp [h2]
          clear HN h1 ht h2
          go_wp2
          go_roundw
          case rel => exact ⟨k + 1, by omega, by go_num, HN'.out, trivial⟩
          case measure => simp [intOf]; omega
        · have ht : typ x = false := by simp [typ, h1, h2]
          rw [ht, Bool.false_and] at HN
          have hb : (x != 126) = true := by simp [h1]
          have hb2 : (x != 127) = true := by simp [h2]
          clear h1 ht h2
          go_wp2
          go_ret
          exact ⟨by first | rfl | (rw [HN]; rfl), rfl⟩
    · have HE := all_end (by omega) HK.out
      clear HK
      go_wp2
      go_ret
      exact ⟨by first | rfl | (rw [HE]; rfl), rfl⟩
end Go.Proofs.YtloelineidlenaaGreatDoor
