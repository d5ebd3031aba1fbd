/- The law's waking call. -/
import Derived.Test.YtagcdnkgochpnaaM4
namespace Go.Proofs.Ytagcdnkgochpnaa
open Go.RowKit Mm
set_option linter.unusedVariables false
theorem fits_of {L a n : Nat} (h : a ≤ L ∧ n ≤ L - a) : fits L a n = true := decide_eq_true h
theorem fits_not {L a n : Nat} (h : ¬ (a ≤ L ∧ n ≤ L - a)) : fits L a n = false := decide_eq_false h
set_option maxHeartbeats 2000000 in
theorem mWakes (w : World) : Calls Try.prog 19 #[] w fun e w' => e = .returned (.bool true) ∧ Below w.heap.size w w' := by
  have HN := hideR (mNew (w := w) 1 0 false (by omega))
  rw [show mostp (1 : Nat) 0 false = 32 from rfl] at HN
  go_enter Try.func19, Try.ntmps19
  go_wp2_with (go_at_call 8; refine HN.out.mono ?_; rintro e w1 ⟨⟨v, rfl, b, r, Z, rfl, hb, hr, hm, hz⟩, hB⟩; have HM := hideR hm; have HB := hideR hB; have Hb := hideR hb; clear hm hB hb hr HN hz)
  have hl := HM.out.len
  have HL1 := hideR (mLoadY HM.out 65532 4 (by omega) (fits_of (by omega)))
  have HL2 := hideR (mLoadN HM.out 65533 4 (by omega) (by rw [fits_not (by show ¬ (65533 ≤ Z.length ∧ 4 ≤ Z.length - 65533); omega), Bool.and_false]))
  have HG := hideR (mGrowY HM.out 31 (by omega) (by decide))
  generalize le ((Z.drop 65532).take 4) = x at *
  have e1 : ((65532 : Nat) : Int) = 65532 := rfl
  have e2 : ((65533 : Nat) : Int) = 65533 := rfl
  have e3 : ((4 : Nat) : Int) = 4 := rfl
  have e4 : ((31 : Nat) : Int) = 31 := rfl
  rw [e1, e3] at HL1
  rw [e2] at HL2
  rw [e4] at HG
  clear e1 e2 e3 e4 hl
  refine HL1.out.mono ?_
  rintro e w' ⟨rfl, rfl⟩
  clear HL1
  go_wp2_with (go_at_call 16; refine HL2.out.mono ?_; rintro e w' ⟨rfl, rfl⟩; clear HL2)
  refine HG.out.mono ?_
  rintro e w2 ⟨rfl, ⟨r2, Z2, hr2, hm2, hz2⟩, hf2⟩
  have HF2 := hideR (hf2.below HB.out (by intro k hk; rw [List.mem_singleton.1 hk]; exact Hb.out))
  have HG2 := hideR (mGrowN hm2 1 (by decide))
  have HP2 := hideR (mPages hm2)
  rw [show ((1 + 31 : Nat) : Int) = 32 from rfl] at HP2
  rw [show ((1 : Nat) : Int) = 1 from rfl]
  clear hr2 hm2 hz2 hf2 HG HB Hb HM
  go_wp2_with (first | (go_at_call 21; refine HG2.out.mono ?_; rintro e w' ⟨rfl, rfl⟩) | (go_at_call 17; refine HP2.out.mono ?_; rintro e w' ⟨rfl, rfl⟩))
  go_ret
  exact ⟨rfl, HF2.out⟩
end Go.Proofs.Ytagcdnkgochpnaa
