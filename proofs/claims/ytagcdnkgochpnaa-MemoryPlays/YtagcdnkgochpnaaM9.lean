/- What is stored is loaded, cut to its size; the bytes beside stay. -/
import Derived.Test.YtagcdnkgochpnaaM8
namespace Go.Proofs.Ytagcdnkgochpnaa
open Go.RowKit Mm
set_option linter.unusedVariables false
namespace Mm
theorem below_drewN' (w : World) (n : Nat) : Below w.heap.size w (w.drewN n) := ⟨rfl, rfl, rfl, Nat.le_refl _, fun _ _ => rfl⟩
theorem put_get {bs ys : List Int} {k j : Nat} (h : k + ys.length ≤ bs.length) : (put bs k ys)[j]? = if j < k then bs[j]? else if j < k + ys.length then ys[j - k]? else bs[j]? := by
  unfold put
  have e1 : (bs.take k).length = k := by rw [List.length_take]; omega
  rw [List.append_assoc]
  by_cases h1 : j < k
  · rw [if_pos h1, List.getElem?_append_left (by omega), List.getElem?_take_of_lt h1]
  · rw [if_neg h1, List.getElem?_append_right (by omega), e1]
    by_cases h2 : j < k + ys.length
    · rw [if_pos h2, List.getElem?_append_left (by omega)]
    · rw [if_neg h2, List.getElem?_append_right (by omega), List.getElem?_drop]
      congr 1; omega
/-- a piece ahead of what is put stays -/
theorem put_ahead {bs ys : List Int} {k i n : Nat} (h : k + ys.length ≤ bs.length) (hi : i + n ≤ k) : ((put bs k ys).drop i).take n = (bs.drop i).take n := by
  apply List.ext_getElem?
  intro j
  by_cases hj : j < n
  · rw [List.getElem?_take_of_lt hj, List.getElem?_take_of_lt hj, List.getElem?_drop, List.getElem?_drop, put_get h, if_pos (by omega)]
  · rw [List.getElem?_eq_none (by rw [List.length_take]; omega), List.getElem?_eq_none (by rw [List.length_take]; omega)]
/-- .. and one behind -/
theorem put_behind {bs ys : List Int} {k i n : Nat} (h : k + ys.length ≤ bs.length) (hi : k + ys.length ≤ i) : ((put bs k ys).drop i).take n = (bs.drop i).take n := by
  apply List.ext_getElem?
  intro j
  by_cases hj : j < n
  · rw [List.getElem?_take_of_lt hj, List.getElem?_take_of_lt hj, List.getElem?_drop, List.getElem?_drop, put_get h, if_neg (by omega), if_neg (by omega)]
  · rw [List.getElem?_eq_none (by rw [List.length_take]; omega), List.getElem?_eq_none (by rw [List.length_take]; omega)]
/-- the ground: eight bytes, again and again -/
def Grnd (g : Int) (k j : Nat) (bs : List Int) : Prop := ∀ i, i < j → ∀ t, t < 8 → bs[k + 8 * i + t]? = some (g / 256 ^ t % 256)
theorem Grnd.zero (g : Int) (k : Nat) (bs : List Int) : Grnd g k 0 bs := fun i h => by omega
theorem Grnd.next {g : Int} {k j : Nat} {bs : List Int} (h : Grnd g k j bs) (hl : k + 8 * j + 8 ≤ bs.length) : Grnd g k (j + 1) (put bs (k + 8 * j) (lb 8 g)) := by
  intro i hi t ht
  rw [put_get (by rw [lb_len]; exact hl), lb_len]
  by_cases hij : i = j
  · subst hij
    rw [if_neg (by omega), if_pos (by omega), show k + 8 * i + t - (k + 8 * i) = t by omega, lb_get 8 g t ht]
  · rw [if_pos (by omega)]
    exact h i (by omega) t ht
theorem Grnd.one {g : Int} {k j : Nat} {bs : List Int} (h : Grnd g k j bs) {s : Nat} (hs : s < 8 * j) : le ((bs.drop (k + s)).take 1) = g / 256 ^ (s % 8) % 256 := by
  have h1 := h (s / 8) (by omega) (s % 8) (by omega)
  rw [show k + 8 * (s / 8) + s % 8 = k + s by omega] at h1
  have : (bs.drop (k + s)).take 1 = [g / 256 ^ (s % 8) % 256] := by
    have h2 : k + s < bs.length := (List.getElem?_eq_some_iff.1 h1).1
    have h3 := (List.getElem?_eq_some_iff.1 h1).2
    rw [List.drop_eq_getElem_cons h2, List.take_succ_cons, List.take_zero, h3]
  rw [this]
  simp [le]
end Mm
set_option maxHeartbeats 4000000 in
theorem backC (a0 a1 a2 a3 : Int) (h0 : 0 ≤ a0 ∧ a0 ≤ 18446744073709551615) (h1 : -9223372036854775808 ≤ a1 ∧ a1 ≤ 9223372036854775807) (h2 : 0 ≤ a2 ∧ a2 ≤ 18446744073709551615) (h3 : 0 ≤ a3 ∧ a3 ≤ 18446744073709551615) (w : World) :
    Calls Try.prog 4 #[.agg #[.int .u64 a0, .int .i64 a1, .int .u64 a2, .int .u64 a3]] w fun e w' => e = .returned (.bool true) ∧ Below w.heap.size w w' := by
  obtain ⟨k, hk⟩ : ∃ k : Nat, a0.tmod 65000 = (k : Int) := ⟨(a0 % 65000).toNat, by rw [Int.tmod_eq_emod_of_nonneg h0.1]; omega⟩
  have hk4 : k < 65000 := by rw [Int.tmod_eq_emod_of_nonneg h0.1] at hk; omega
  have hB0 : Below w.heap.size w (w.alloc (.cells #[.int .u64 a0, .int .i64 a1, .int .u64 a2, .int .u64 a3] 45)) := (Below.refl _ _).alloc (Nat.le_refl _) _
  have HB0 := hideR hB0
  clear hB0
  go_enter Try.func4, Try.ntmps4
  go_wp2_with fail
  go_quiet (fail)
  have hB0 := bel_on HB0.out (below_drewN' _ nq)
  generalize (w.alloc (.cells #[.int .u64 a0, .int .i64 a1, .int .u64 a2, .int .u64 a3] 45)).drewN nq = w0 at *
  have HN := hideR (mNew (w := w0) 1 0 false (by omega))
  rw [show mostp (1 : Nat) 0 false = 32 from rfl] at HN
  have HB0' := hideR hB0
  clear HB0 hB0
  go_wp2_with (go_at_call 8; refine HN.out.mono ?_; rintro e w1 ⟨⟨v, rfl, b, r, Z, rfl, hb, hr, hm, hz⟩, hB⟩; have HM := hideR hm; have HB := hideR (bel_on HB0'.out hB); have Hr := hideR (Nat.le_trans HB0'.out.size hr); clear hm hB hb hr HN hz)
  go_loopw [10] (fun i wr => ∃ j : Nat, j ≤ 4 ∧ i = .int .u64 j ∧ ∃ bs, Hid (Mem wr b r 32 1 bs ∧ Grnd a3 k j bs ∧ Frm [r] w1 wr)) (fun i _ => 4 - (intOf i).toNat)
  case atStart => exact ⟨0, by omega, rfl, Z, HM.out, Grnd.zero _ _ _, Frm.refl _ _⟩
  case round =>
    obtain ⟨j, hj, rfl, bs, HI⟩ := hrel
    have hl := HI.out.1.len
    by_cases hgo : j < 4
    · have HS := hideR (mStoreY HI.out.1 (k + 8 * j) 8 a3 h3 (by omega) (fits_of (by omega)))
      rw [show ((8 : Nat) : Int) = 8 from rfl] at HS
      rw [show ((k + 8 * j : Nat) : Int) = (k : Int) + 8 * (j : Int) by omega] at HS
      go_wp2_with (go_at_call 14; refine HS.out.mono ?_; rintro e w2 ⟨rfl, hm2, hf2⟩; have HX := hideR (And.intro hm2 (And.intro (HI.out.2.1.next (by omega)) (HI.out.2.2.trans hf2))); clear hm2 hf2)
      go_roundw
      case rel => exact ⟨j + 1, by omega, by go_num, _, HX⟩
      case measure => simp [intOf]; omega
    · obtain rfl : j = 4 := by omega
      have hbb := HI.out.2.2.below HB.out (by intro i hi; rw [List.mem_singleton.1 hi]; exact Hr.out)
      have HBB := hideR hbb
      have HL := hideR (mLoadV HI.out.1 k 8 (le ((bs.drop k).take 8)) (by omega) (by omega) rfl)
      rw [show ((8 : Nat) : Int) = 8 from rfl] at HL
      obtain ⟨X, hX⟩ : ∃ X, X = le ((bs.drop k).take 8) := ⟨_, rfl⟩
      rw [← hX] at HL
      have HXX := hideR hX
      clear hX hbb
      go_wp2_with fail
      refine HL.out.mono ?_
      rintro e w' ⟨rfl, rfl⟩
      by_cases hs : szd a1 = true
      · obtain ⟨n, rfl⟩ : ∃ n : Nat, a1 = (n : Int) := ⟨a1.toNat, by have := szd_of hs; omega⟩
        have hn : n = 1 ∨ n = 2 ∨ n = 4 ∨ n = 8 := by have := szd_of hs; omega
        have hT := mStoreY HI.out.1 (k + 8) n a2 h2 hn (fits_of (by omega))
        rw [show ((k + 8 : Nat) : Int) = (k : Int) + 8 by omega] at hT
        have HT := hideR hT
        clear hT
        have hlp : (put bs (k + 8) (lb n a2)).length = 65536 := by rw [put_len (by rw [lb_len]; omega)]; omega
        have p1 : le (((put bs (k + 8) (lb n a2)).drop k).take 8) = X := by rw [HXX.out, put_ahead (by rw [lb_len]; omega) (by omega)]
        have p2 : le (((put bs (k + 8) (lb n a2)).drop (k + 8)).take n) = a2 % 256 ^ n := le_put (by omega)
        have p3 : le (((put bs (k + 8) (lb n a2)).drop (k + 8 + n)).take 1) = a3 / 256 ^ (n % 8) % 256 := by
          rw [put_behind (by rw [lb_len]; omega) (by rw [lb_len]; omega), Nat.add_assoc, HI.out.2.1.one (s := 8 + n) (by omega), show (8 + n) % 8 = n % 8 by omega]
        generalize put bs (k + 8) (lb n a2) = bs2 at *
        have P1 := hideR p1
        have P2 := hideR p2
        have P3 := hideR p3
        have HLP := hideR hlp
        clear hs p1 p2 p3 hl hlp HI HL HM
        rcases hn with rfl | rfl | rfl | rfl
        · have e2 : le ((bs2.drop (k + 8)).take 1) = a2 % 256 := by rw [P2.out]; rfl
          have e3 : le ((bs2.drop (k + 8 + 1)).take 1) = a3 / 256 % 256 := by rw [P3.out]; rfl
          have E2 := hideR e2
          have E3 := hideR e3
          have t2 : a2.tmod 256 = a2 % 256 := Int.tmod_eq_emod_of_nonneg h2.1
          have t3 : (a3 / 256).tmod 256 = a3 / 256 % 256 := Int.tmod_eq_emod_of_nonneg (by omega)
          clear e2 e3 P2 P3
          go_wp2_with (go_at_call 14; refine HT.out.mono ?_; rintro e w2 ⟨rfl, hm2, hf2⟩; have HM2 := hideR hm2; have HB2 := hideR (hf2.below HBB.out (by intro i hi; rw [List.mem_singleton.1 hi]; exact Hr.out)); clear hm2 hf2 HT)
          have HLa := hideR (mLoadV HM2.out k 8 X (by omega) (by have := HLP.out; omega) P1.out)
          have HLb := hideR (mLoadV HM2.out (k + 8) 1 _ (by omega) (by have := HLP.out; omega) E2.out)
          have HLc := hideR (mLoadV HM2.out (k + 8 + 1) 1 _ (by omega) (by have := HLP.out; omega) E3.out)
          rw [show ((8 : Nat) : Int) = 8 from rfl] at HLa
          rw [show ((k + 8 : Nat) : Int) = (k : Int) + 8 by omega, show ((1 : Nat) : Int) = 1 from rfl] at HLb
          rw [show ((k + 8 + 1 : Nat) : Int) = (k : Int) + 8 + 1 by omega, show ((1 : Nat) : Int) = 1 from rfl] at HLc
          clear HM2 E2 E3 P1 HLP HXX
          refine HLa.out.mono ?_
          rintro e w' ⟨rfl, rfl⟩
          go_wp2_with fail
          refine HLb.out.mono ?_
          rintro e w' ⟨rfl, rfl⟩
          go_wp2_with fail
          refine HLc.out.mono ?_
          rintro e w' ⟨rfl, rfl⟩
          go_wp2_with (go_at_call 19; refine (mWakes _).mono ?_; rintro e w3 ⟨rfl, hb3⟩; have HB5 := hideR hb3; clear hb3)
          go_ret
          exact ⟨rfl, bel_on HB2.out HB5.out⟩
        · have e2 : le ((bs2.drop (k + 8)).take 2) = a2 % 65536 := by rw [P2.out]; rfl
          have e3 : le ((bs2.drop (k + 8 + 2)).take 1) = a3 / 65536 % 256 := by rw [P3.out]; rfl
          have E2 := hideR e2
          have E3 := hideR e3
          have t2 : a2.tmod 65536 = a2 % 65536 := Int.tmod_eq_emod_of_nonneg h2.1
          have t3 : (a3 / 65536).tmod 256 = a3 / 65536 % 256 := Int.tmod_eq_emod_of_nonneg (by omega)
          clear e2 e3 P2 P3
          go_wp2_with (go_at_call 14; refine HT.out.mono ?_; rintro e w2 ⟨rfl, hm2, hf2⟩; have HM2 := hideR hm2; have HB2 := hideR (hf2.below HBB.out (by intro i hi; rw [List.mem_singleton.1 hi]; exact Hr.out)); clear hm2 hf2 HT)
          have HLa := hideR (mLoadV HM2.out k 8 X (by omega) (by have := HLP.out; omega) P1.out)
          have HLb := hideR (mLoadV HM2.out (k + 8) 2 _ (by omega) (by have := HLP.out; omega) E2.out)
          have HLc := hideR (mLoadV HM2.out (k + 8 + 2) 1 _ (by omega) (by have := HLP.out; omega) E3.out)
          rw [show ((8 : Nat) : Int) = 8 from rfl] at HLa
          rw [show ((k + 8 : Nat) : Int) = (k : Int) + 8 by omega, show ((2 : Nat) : Int) = 2 from rfl] at HLb
          rw [show ((k + 8 + 2 : Nat) : Int) = (k : Int) + 8 + 2 by omega, show ((1 : Nat) : Int) = 1 from rfl] at HLc
          clear HM2 E2 E3 P1 HLP HXX
          refine HLa.out.mono ?_
          rintro e w' ⟨rfl, rfl⟩
          go_wp2_with fail
          refine HLb.out.mono ?_
          rintro e w' ⟨rfl, rfl⟩
          go_wp2_with fail
          refine HLc.out.mono ?_
          rintro e w' ⟨rfl, rfl⟩
          go_wp2_with (go_at_call 19; refine (mWakes _).mono ?_; rintro e w3 ⟨rfl, hb3⟩; have HB5 := hideR hb3; clear hb3)
          go_ret
          exact ⟨rfl, bel_on HB2.out HB5.out⟩
        · have e2 : le ((bs2.drop (k + 8)).take 4) = a2 % 4294967296 := by rw [P2.out]; rfl
          have e3 : le ((bs2.drop (k + 8 + 4)).take 1) = a3 / 4294967296 % 256 := by rw [P3.out]; rfl
          have E2 := hideR e2
          have E3 := hideR e3
          have t2 : a2.tmod 4294967296 = a2 % 4294967296 := Int.tmod_eq_emod_of_nonneg h2.1
          have t3 : (a3 / 4294967296).tmod 256 = a3 / 4294967296 % 256 := Int.tmod_eq_emod_of_nonneg (by omega)
          clear e2 e3 P2 P3
          go_wp2_with (go_at_call 14; refine HT.out.mono ?_; rintro e w2 ⟨rfl, hm2, hf2⟩; have HM2 := hideR hm2; have HB2 := hideR (hf2.below HBB.out (by intro i hi; rw [List.mem_singleton.1 hi]; exact Hr.out)); clear hm2 hf2 HT)
          have HLa := hideR (mLoadV HM2.out k 8 X (by omega) (by have := HLP.out; omega) P1.out)
          have HLb := hideR (mLoadV HM2.out (k + 8) 4 _ (by omega) (by have := HLP.out; omega) E2.out)
          have HLc := hideR (mLoadV HM2.out (k + 8 + 4) 1 _ (by omega) (by have := HLP.out; omega) E3.out)
          rw [show ((8 : Nat) : Int) = 8 from rfl] at HLa
          rw [show ((k + 8 : Nat) : Int) = (k : Int) + 8 by omega, show ((4 : Nat) : Int) = 4 from rfl] at HLb
          rw [show ((k + 8 + 4 : Nat) : Int) = (k : Int) + 8 + 4 by omega, show ((1 : Nat) : Int) = 1 from rfl] at HLc
          clear HM2 E2 E3 P1 HLP HXX
          refine HLa.out.mono ?_
          rintro e w' ⟨rfl, rfl⟩
          go_wp2_with fail
          refine HLb.out.mono ?_
          rintro e w' ⟨rfl, rfl⟩
          go_wp2_with fail
          refine HLc.out.mono ?_
          rintro e w' ⟨rfl, rfl⟩
          go_wp2_with (go_at_call 19; refine (mWakes _).mono ?_; rintro e w3 ⟨rfl, hb3⟩; have HB5 := hideR hb3; clear hb3)
          go_ret
          exact ⟨rfl, bel_on HB2.out HB5.out⟩
        · have e2 : le ((bs2.drop (k + 8)).take 8) = a2 := by rw [P2.out]; exact Int.emod_eq_of_lt h2.1 (by omega)
          have e3 : le ((bs2.drop (k + 8 + 8)).take 1) = a3 % 256 := by rw [P3.out]; simp
          have E2 := hideR e2
          have E3 := hideR e3
          have t3 : a3.tmod 256 = a3 % 256 := Int.tmod_eq_emod_of_nonneg h3.1
          clear e2 e3 P2 P3
          go_wp2_with (go_at_call 14; refine HT.out.mono ?_; rintro e w2 ⟨rfl, hm2, hf2⟩; have HM2 := hideR hm2; have HB2 := hideR (hf2.below HBB.out (by intro i hi; rw [List.mem_singleton.1 hi]; exact Hr.out)); clear hm2 hf2 HT)
          have HLa := hideR (mLoadV HM2.out k 8 X (by omega) (by have := HLP.out; omega) P1.out)
          have HLb := hideR (mLoadV HM2.out (k + 8) 8 _ (by omega) (by have := HLP.out; omega) E2.out)
          have HLc := hideR (mLoadV HM2.out (k + 8 + 8) 1 _ (by omega) (by have := HLP.out; omega) E3.out)
          rw [show ((8 : Nat) : Int) = 8 from rfl] at HLa
          rw [show ((k + 8 : Nat) : Int) = (k : Int) + 8 by omega, show ((8 : Nat) : Int) = 8 from rfl] at HLb
          rw [show ((k + 8 + 8 : Nat) : Int) = (k : Int) + 8 + 8 by omega, show ((1 : Nat) : Int) = 1 from rfl] at HLc
          clear HM2 E2 E3 P1 HLP HXX
          refine HLa.out.mono ?_
          rintro e w' ⟨rfl, rfl⟩
          go_wp2_with fail
          refine HLb.out.mono ?_
          rintro e w' ⟨rfl, rfl⟩
          go_wp2_with fail
          refine HLc.out.mono ?_
          rintro e w' ⟨rfl, rfl⟩
          go_wp2_with (go_at_call 19; refine (mWakes _).mono ?_; rintro e w3 ⟨rfl, hb3⟩; have HB5 := hideR hb3; clear hb3)
          go_ret
          exact ⟨rfl, bel_on HB2.out HB5.out⟩
      · have hs' : szd a1 = false := by simpa using hs
        have hT := mStoreN HI.out.1 (k + 8) a1 a2 (by omega) (by rw [hs']; rfl)
        have hL2 := mLoadN HI.out.1 (k + 8) a1 (by omega) (by rw [hs']; rfl)
        rw [show ((k + 8 : Nat) : Int) = (k : Int) + 8 by omega] at hT hL2
        have HT := hideR hT
        have HL2 := hideR hL2
        obtain ⟨n1, n2, n4, n8⟩ := szd_not hs'
        have q1 : (a1 != 1) = true := by simpa using n1
        have q2 : (a1 != 2) = true := by simpa using n2
        have q4 : (a1 != 4) = true := by simpa using n4
        have q8 : (a1 != 8) = true := by simpa using n8
        clear hT hL2 hs hs' n1 n2 n4 n8
        go_wp2_with (go_at_call 14; refine HT.out.mono ?_; rintro e w2 ⟨rfl, rfl⟩)
        refine HL.out.mono ?_
        rintro e w' ⟨rfl, rfl⟩
        go_wp2_with fail
        refine HL2.out.mono ?_
        rintro e w' ⟨rfl, rfl⟩
        go_wp2_with (go_at_call 19; refine (mWakes _).mono ?_; rintro e w3 ⟨rfl, hb3⟩; have HB5 := hideR hb3; clear hb3)
        go_ret
        exact ⟨rfl, bel_on HBB.out HB5.out⟩
end Go.Proofs.Ytagcdnkgochpnaa
