/- The program's looks at lists of numbers: either they come back and nothing has happened, or they give up with the error. -/
import Derived.Test.YtloelineidlenaaGreatDoorW0
namespace Go.Proofs.YtloelineidlenaaGreatDoor
open Go.RowKit Rep
set_option linter.unusedVariables false
namespace Rep
def few (n : Int) : Bool := decide (n ≤ 4096)
end Rep

set_option maxHeartbeats 1000000 in
theorem pneedShort (v : Value) (l : List Int) (w : World) (hAt : Ints w v l) :
    Calls Tryz.prog 35 #[v] w fun e w' => Needs (l.all few) 3 e ∧ w' = w := by
  have hlen := hAt.1
  obtain ⟨o, cap, hv⟩ := Row.len hAt
  have hs := Row.some hAt
  subst hv
  obtain ⟨R, hR⟩ : ∃ R, R = l.all few := ⟨_, rfl⟩
  rw [← hR]
  have HR : Hid (R = (l.drop 0).all few) := hR
  have HX := hideM hs
  clear hs hAt hR
  generalize hn : l.length = n at *
  go_enter Tryz.func35, Tryz.ntmps35
  go_wp2_with fail
  go_loopw [6] (fun i wr => ∃ j : Nat, j ≤ n ∧ i = .int .i64 j ∧ Hid (R = (l.drop j).all few) ∧ wr = w) (fun i _ => n - (intOf i).toNat)
  case atStart => exact ⟨0, by omega, rfl, HR, rfl⟩
  case round =>
    obtain ⟨j, hj, rfl, HK, rfl⟩ := hrel
    by_cases hgo : j < n
    · obtain ⟨b, off, cap2, hv2, hx⟩ := HX.out (by omega)
      injection hv2 with ho h2 h3
      subst ho
      obtain ⟨x, hxk⟩ : ∃ x, l[j]? = some x := ⟨_, List.getElem?_eq_getElem (by omega)⟩
      have hc := hx j x hxk
      rw [Nat.mul_one] at hc
      have HN := hideM (all_on hxk HK.out)
      clear hx hxk HK HX h2 h3
      by_cases h1 : x ≤ 4096
      · have hp : few x = true := by simp [few, h1]
        have d1 : decide (x ≤ 4096) = true := by simp [h1]
        have HN' : Hid (R = (l.drop (j + 1)).all few) := by have := HN.out; rw [hp, Bool.true_and] at this; exact this
        clear HN hp
        go_wp2_with fail
        refine (pNeed true _ _).mono ?_
        rintro e u ⟨⟨_, rfl⟩ | ⟨hf, _⟩, rfl⟩
        · go_wp2
          go_roundw
          case rel => exact ⟨j + 1, by omega, by go_num, HN', trivial⟩
          case measure => simp [intOf]; omega
        · cases hf
      · have hp : few x = false := by simp [few]; omega
        have d1 : decide (x ≤ 4096) = false := by simp; omega
        have HF : R = false := by have := HN.out; rw [hp, Bool.false_and] at this; exact this
        have HFF := hideM HF
        clear HN hp HF
        go_wp2_with fail
        refine (pNeed false _ _).mono ?_
        rintro e u ⟨⟨hf, _⟩ | ⟨_, rfl⟩, rfl⟩
        · cases hf
        · go_wp2
          exact ⟨rfl, .inr ⟨HFF.out, rfl⟩, rfl⟩
    · have HE : R = true := all_end (by omega) HK.out
      have HEE := hideM HE
      clear HE HK
      go_wp2
      go_end0
      exact ⟨.inl ⟨HEE.out, rfl⟩, rfl⟩

set_option maxHeartbeats 1000000 in
theorem pneedTypes (v : Value) (l : List Int) (w : World) (hAt : Ints w v l) :
    Calls Tryz.prog 78 #[v] w fun e w' => Needs (l.all typ) 30 e ∧ w' = w := by
  have hlen := hAt.1
  obtain ⟨o, cap, hv⟩ := Row.len hAt
  have hs := Row.some hAt
  subst hv
  obtain ⟨R, hR⟩ : ∃ R, R = l.all typ := ⟨_, rfl⟩
  rw [← hR]
  have HR : Hid (R = (l.drop 0).all typ) := hR
  have HX := hideM hs
  clear hs hAt hR
  generalize hn : l.length = n at *
  go_enter Tryz.func78, Tryz.ntmps78
  go_wp2_with fail
  go_loopw [6] (fun i wr => ∃ j : Nat, j ≤ n ∧ i = .int .i64 j ∧ Hid (R = (l.drop j).all typ) ∧ wr = w) (fun i _ => n - (intOf i).toNat)
  case atStart => exact ⟨0, by omega, rfl, HR, rfl⟩
  case round =>
    obtain ⟨j, hj, rfl, HK, rfl⟩ := hrel
    by_cases hgo : j < n
    · obtain ⟨b, off, cap2, hv2, hx⟩ := HX.out (by omega)
      injection hv2 with ho h2 h3
      subst ho
      obtain ⟨x, hxk⟩ : ∃ x, l[j]? = some x := ⟨_, List.getElem?_eq_getElem (by omega)⟩
      have hc := hx j x hxk
      rw [Nat.mul_one] at hc
      have HN := hideM (all_on hxk HK.out)
      clear hx hxk HK HX h2 h3
      by_cases h1 : x = 127
      · have hp : typ x = true := by simp [typ, h1]
        have d1 : (x == 127) = true := by simp [h1]
        clear h1
        have HN' : Hid (R = (l.drop (j + 1)).all typ) := by have := HN.out; rw [hp, Bool.true_and] at this; exact this
        clear HN hp
        go_wp2_with fail
        refine (pNeed true _ _).mono ?_
        rintro e u ⟨⟨_, rfl⟩ | ⟨hf, _⟩, rfl⟩
        · go_wp2
          go_roundw
          case rel => exact ⟨j + 1, by omega, by go_num, HN', trivial⟩
          case measure => simp [intOf]; omega
        · cases hf
      · have d1 : (x == 127) = false := by simp [h1]
        by_cases h2 : x = 126
        · have hp : typ x = true := by simp [typ, h2]
          have d2 : (x == 126) = true := by simp [h2]
          clear h1 h2
          have HN' : Hid (R = (l.drop (j + 1)).all typ) := by have := HN.out; rw [hp, Bool.true_and] at this; exact this
          clear HN hp
          go_wp2_with fail
          refine (pNeed true _ _).mono ?_
          rintro e u ⟨⟨_, rfl⟩ | ⟨hf, _⟩, rfl⟩
          · go_wp2
            go_roundw
            case rel => exact ⟨j + 1, by omega, by go_num, HN', trivial⟩
            case measure => simp [intOf]; omega
          · cases hf
        · have hp : typ x = false := by simp [typ, h1, h2]
          have d2 : (x == 126) = false := by simp [h2]
          clear h1 h2
          have HF : R = false := by have := HN.out; rw [hp, Bool.false_and] at this; exact this
          have HFF := hideM HF
          clear HN hp HF
          go_wp2_with fail
          refine (pNeed false _ _).mono ?_
          rintro e u ⟨⟨hf, _⟩ | ⟨_, rfl⟩, rfl⟩
          · cases hf
          · go_wp2
            exact ⟨rfl, .inr ⟨HFF.out, rfl⟩, rfl⟩
    · have HE : R = true := all_end (by omega) HK.out
      have HEE := hideM HE
      clear HE HK
      go_wp2
      go_end0
      exact ⟨.inl ⟨HEE.out, rfl⟩, rfl⟩

set_option maxHeartbeats 1000000 in
theorem pneedIndices (v : Value) (l : List Int) (w : World) (hAt : Ints w v l) :
    Calls Tryz.prog 80 #[v] w fun e w' => Needs (l.all idx) 30 e ∧ w' = w := by
  have hlen := hAt.1
  obtain ⟨o, cap, hv⟩ := Row.len hAt
  have hs := Row.some hAt
  subst hv
  obtain ⟨R, hR⟩ : ∃ R, R = l.all idx := ⟨_, rfl⟩
  rw [← hR]
  have HR : Hid (R = (l.drop 0).all idx) := hR
  have HX := hideM hs
  clear hs hAt hR
  generalize hn : l.length = n at *
  go_enter Tryz.func80, Tryz.ntmps80
  go_wp2_with fail
  go_loopw [6] (fun i wr => ∃ j : Nat, j ≤ n ∧ i = .int .i64 j ∧ Hid (R = (l.drop j).all idx) ∧ wr = w) (fun i _ => n - (intOf i).toNat)
  case atStart => exact ⟨0, by omega, rfl, HR, rfl⟩
  case round =>
    obtain ⟨j, hj, rfl, HK, rfl⟩ := hrel
    by_cases hgo : j < n
    · obtain ⟨b, off, cap2, hv2, hx⟩ := HX.out (by omega)
      injection hv2 with ho h2 h3
      subst ho
      obtain ⟨x, hxk⟩ : ∃ x, l[j]? = some x := ⟨_, List.getElem?_eq_getElem (by omega)⟩
      have hc := hx j x hxk
      rw [Nat.mul_one] at hc
      have HN := hideM (all_on hxk HK.out)
      clear hx hxk HK HX h2 h3
      by_cases h1 : 0 ≤ x
      · have d1 : decide (0 ≤ x) = true := by simp [h1]
        by_cases h2 : x ≤ 4294967295
        · have hp : idx x = true := by simp [idx, h1, h2]
          have d2 : decide (x ≤ 4294967295) = true := by simp [h2]
          have HN' : Hid (R = (l.drop (j + 1)).all idx) := by have := HN.out; rw [hp, Bool.true_and] at this; exact this
          clear HN hp
          go_wp2_with fail
          refine (pNeed true _ _).mono ?_
          rintro e u ⟨⟨_, rfl⟩ | ⟨hf, _⟩, rfl⟩
          · go_wp2
            go_roundw
            case rel => exact ⟨j + 1, by omega, by go_num, HN', trivial⟩
            case measure => simp [intOf]; omega
          · cases hf
        · have hp : idx x = false := by simp [idx]; omega
          have d2 : decide (x ≤ 4294967295) = false := by simp; omega
          have HF : R = false := by have := HN.out; rw [hp, Bool.false_and] at this; exact this
          have HFF := hideM HF
          clear HN hp HF
          go_wp2_with fail
          refine (pNeed false _ _).mono ?_
          rintro e u ⟨⟨hf, _⟩ | ⟨_, rfl⟩, rfl⟩
          · cases hf
          · go_wp2
            exact ⟨rfl, .inr ⟨HFF.out, rfl⟩, rfl⟩
      · have hp : idx x = false := by simp [idx]; omega
        have d1 : decide (0 ≤ x) = false := by simp; omega
        have HF : R = false := by have := HN.out; rw [hp, Bool.false_and] at this; exact this
        have HFF := hideM HF
        clear HN hp HF
        go_wp2_with fail
        refine (pNeed false _ _).mono ?_
        rintro e u ⟨⟨hf, _⟩ | ⟨_, rfl⟩, rfl⟩
        · cases hf
        · go_wp2
          exact ⟨rfl, .inr ⟨HFF.out, rfl⟩, rfl⟩
    · have HE : R = true := all_end (by omega) HK.out
      have HEE := hideM HE
      clear HE HK
      go_wp2
      go_end0
      exact ⟨.inl ⟨HEE.out, rfl⟩, rfl⟩

end Go.Proofs.YtloelineidlenaaGreatDoor
