/- Just the bytes that are there are there. -/
import Derived.Test.YtagcdnkgochpnaaM5
namespace Go.Proofs.Ytagcdnkgochpnaa
open Go.RowKit Mm
set_option linter.unusedVariables false
theorem mLoadAny {w : World} {b r : Nat} {mo : Int} {pg : Nat} {bs : List Int} (h : Mem w b r mo pg bs) (at_ : Nat) (n : Int) (ha : at_ ≤ 18446744073709551615) :
    Calls Try.prog 16 #[.pointer (some ⟨b, 0, none⟩), .int .u64 at_, .int .i64 n] w fun e w' => (∃ x, e = .returned (.tuple #[.int .u64 x, .bool (szd n && fits bs.length at_ n.toNat)])) ∧ w' = w := by
  cases hk : (szd n && fits bs.length at_ n.toNat) with
  | false => exact (mLoadN h at_ n ha hk).mono fun e w' ⟨he, hw⟩ => ⟨⟨0, he⟩, hw⟩
  | true =>
    rw [Bool.and_eq_true] at hk
    have hn := szd_of hk.1
    have e : n = (n.toNat : Int) := by omega
    have := mLoadY h at_ n.toNat (by omega) hk.2
    rw [← e] at this
    exact this.mono fun e w' ⟨he, hw⟩ => ⟨⟨_, he⟩, hw⟩
theorem mStoreAny {w : World} {b r : Nat} {mo : Int} {pg : Nat} {bs : List Int} (h : Mem w b r mo pg bs) (at_ : Nat) (n v : Int) (ha : at_ ≤ 18446744073709551615) (hv : 0 ≤ v ∧ v ≤ 18446744073709551615) :
    Calls Try.prog 14 #[.pointer (some ⟨b, 0, none⟩), .int .u64 at_, .int .i64 n, .int .u64 v] w fun e w' => e = .returned (.bool (szd n && fits bs.length at_ n.toNat)) ∧ Frm [r] w w' := by
  cases hk : (szd n && fits bs.length at_ n.toNat) with
  | false => exact (mStoreN h at_ n v ha hk).mono fun e w' ⟨he, hw⟩ => ⟨he, by rw [hw]; exact Frm.refl _ _⟩
  | true =>
    rw [Bool.and_eq_true] at hk
    have hn := szd_of hk.1
    have e : n = (n.toNat : Int) := by omega
    have := mStoreY h at_ n.toNat v hv (by omega) hk.2
    rw [← e] at this
    exact this.mono fun e w' ⟨he, _, hf⟩ => ⟨he, hf⟩
theorem bel_then {w w1 w2 w3 : World} {r : Nat} (h1 : Below w.heap.size w w1) (hr : w.heap.size ≤ r) (hf : Frm [r] w1 w2) (h3 : Below w2.heap.size w2 w3) : Below w.heap.size w w3 := by
  have h2 := hf.below h1 (by intro k hk; rw [List.mem_singleton.1 hk]; exact hr)
  exact h2.trans (h3.mono h2.size)
set_option maxHeartbeats 4000000 in
theorem endsC (a0 a1 a2 : Int) (h0 : 0 ≤ a0 ∧ a0 ≤ 255) (h1 : 0 ≤ a1 ∧ a1 ≤ 18446744073709551615) (h2 : -9223372036854775808 ≤ a2 ∧ a2 ≤ 9223372036854775807) (w : World) :
    Calls Try.prog 6 #[.int .u8 a0, .int .u64 a1, .int .i64 a2] w fun e w' => e = .returned (.bool true) ∧ Below w.heap.size w w' := by
  obtain ⟨A, rfl⟩ := Int.eq_ofNat_of_zero_le h1.1
  obtain ⟨p, hp⟩ : ∃ p : Nat, a0.tmod 4 = (p : Int) := ⟨(a0 % 4).toNat, by rw [Int.tmod_eq_emod_of_nonneg h0.1]; omega⟩
  have hp4 : p < 4 := by rw [Int.tmod_eq_emod_of_nonneg h0.1] at hp; omega
  have HN := hideR (mNew (w := w) p 0 false (by omega))
  rw [show mostp p 0 false = 32 from rfl] at HN
  have hw0 : wrap64 a0 = a0 := by unfold wrap64; omega
  go_enter Try.func6, Try.ntmps6
  go_wp2_with (go_at_call 8; refine HN.out.mono ?_; rintro e w1 ⟨⟨v, rfl, b, r, Z, rfl, hb, hr, hm, hz⟩, hB⟩; have HM := hideR hm; have HB := hideR hB; have Hb := hideR hb; have Hr := hideR hr; clear hm hB hb hr HN hz)
  have hl := HM.out.len
  have hA64 : A ≤ 18446744073709551615 := by omega
  have hw : IntKind.u64.wrap ((p : Int) * 65536) = (p : Int) * 65536 := wrap_u64 (by omega) (by omega)
  have HL := hideR (mLoadAny HM.out A a2 hA64)
  have HS := hideR (mStoreAny HM.out A a2 1 hA64 (by omega))
  by_cases hs : szd a2 = true
  · by_cases hA : A ≤ p * 65536
    · have d1 : decide ((A : Int) ≤ (p : Int) * 65536) = true := decide_eq_true (by omega)
      have hw2 : IntKind.u64.wrap ((p : Int) * 65536 - (A : Int)) = (p : Int) * 65536 - (A : Int) := wrap_u64 (by omega) (by omega)
      by_cases hN : a2.toNat ≤ p * 65536 - A
      · have hK : (szd a2 && fits Z.length A a2.toNat) = true := by rw [hs, fits_of (by rw [hl]; exact ⟨hA, hN⟩)]; rfl
        rw [hK] at HL HS
        clear hK
        have d2 : decide (a2 ≤ (p : Int) * 65536 - A) = true := decide_eq_true (by omega)
        rcases szd_of hs with rfl | rfl | rfl | rfl
        all_goals (
          clear hs hN hA
          refine HL.out.mono ?_
          rintro e w' ⟨⟨x, rfl⟩, rfl⟩
          go_wp2_with (first | (go_at_call 14; refine HS.out.mono ?_; rintro e w2 ⟨rfl, hf⟩; have HF := hideR hf; clear hf) | (go_at_call 19; refine (mWakes _).mono ?_; rintro e w3 ⟨rfl, hb3⟩; have HB3 := hideR hb3; clear hb3))
          go_ret
          exact ⟨rfl, bel_then HB.out Hr.out HF.out HB3.out⟩)
      · have hK : (szd a2 && fits Z.length A a2.toNat) = false := by rw [hs, fits_not (by rw [hl]; exact fun h => hN h.2)]; rfl
        rw [hK] at HL HS
        clear hK
        have d2 : decide (a2 ≤ (p : Int) * 65536 - A) = false := decide_eq_false (by have := szd_of hs; omega)
        rcases szd_of hs with rfl | rfl | rfl | rfl
        all_goals (
          clear hs hN hA
          refine HL.out.mono ?_
          rintro e w' ⟨⟨x, rfl⟩, rfl⟩
          go_wp2_with (first | (go_at_call 14; refine HS.out.mono ?_; rintro e w2 ⟨rfl, hf⟩; have HF := hideR hf; clear hf) | (go_at_call 19; refine (mWakes _).mono ?_; rintro e w3 ⟨rfl, hb3⟩; have HB3 := hideR hb3; clear hb3))
          go_ret
          exact ⟨rfl, bel_then HB.out Hr.out HF.out HB3.out⟩)
    · have d1 : decide ((A : Int) ≤ (p : Int) * 65536) = false := decide_eq_false (by omega)
      have hK : (szd a2 && fits Z.length A a2.toNat) = false := by rw [hs, fits_not (by rw [hl]; exact fun h => hA h.1)]; rfl
      rw [hK] at HL HS
      clear hK
      rcases szd_of hs with rfl | rfl | rfl | rfl
      all_goals (
          clear hs hA
          refine HL.out.mono ?_
          rintro e w' ⟨⟨x, rfl⟩, rfl⟩
          go_wp2_with (first | (go_at_call 14; refine HS.out.mono ?_; rintro e w2 ⟨rfl, hf⟩; have HF := hideR hf; clear hf) | (go_at_call 19; refine (mWakes _).mono ?_; rintro e w3 ⟨rfl, hb3⟩; have HB3 := hideR hb3; clear hb3))
          go_ret
          exact ⟨rfl, bel_then HB.out Hr.out HF.out HB3.out⟩)
  · have hs' : szd a2 = false := by simpa using hs
    have hK : (szd a2 && fits Z.length A a2.toNat) = false := by rw [hs']; rfl
    rw [hK] at HL HS
    clear hK
    obtain ⟨n1, n2, n4, n8⟩ := szd_not hs'
    have q1 : (a2 == 1) = false := by simpa using n1
    have q2 : (a2 == 2) = false := by simpa using n2
    have q4 : (a2 == 4) = false := by simpa using n4
    have q8 : (a2 == 8) = false := by simpa using n8
    clear hs hs' n1 n2 n4 n8
    refine HL.out.mono ?_
    rintro e w' ⟨⟨x, rfl⟩, rfl⟩
    go_wp2_with (first | (go_at_call 14; refine HS.out.mono ?_; rintro e w2 ⟨rfl, hf⟩; have HF := hideR hf; clear hf) | (go_at_call 19; refine (mWakes _).mono ?_; rintro e w3 ⟨rfl, hb3⟩; have HB3 := hideR hb3; clear hb3))
    go_ret
    exact ⟨rfl, bel_then HB.out Hr.out HF.out HB3.out⟩
end Go.Proofs.Ytagcdnkgochpnaa
