/- What was there stays when a memory grows; a fork that grows leaves it. -/
import Derived.Test.YtagcdnkgochpnaaM6
namespace Go.Proofs.Ytagcdnkgochpnaa
open Go.RowKit Mm
set_option linter.unusedVariables false
namespace Mm
theorem put_mid {bs ys : List Int} {k : Nat} (h : k + ys.length ≤ bs.length) : ((put bs k ys).drop k).take ys.length = ys := by
  unfold put
  have e1 : (bs.take k).length = k := by rw [List.length_take]; omega
  rw [List.append_assoc, List.drop_left' e1, List.take_left' rfl]
theorem put_app {bs ys zs : List Int} {k n : Nat} (h : k + n ≤ bs.length) : ((bs ++ zs).drop k).take n = (bs.drop k).take n := by
  rw [List.drop_append_of_le_length (by omega), List.take_append_of_le_length (by rw [List.length_drop]; omega)]
theorem le_zero : ∀ n, le (List.replicate n 0) = 0
  | 0 => rfl
  | n + 1 => by rw [List.replicate_succ]; simp only [le]; rw [le_zero n]; rfl
theorem le_put {bs : List Int} {k n : Nat} {v : Int} (h : k + n ≤ bs.length) : le (((put bs k (lb n v)).drop k).take n) = v % 256 ^ n := by
  have := put_mid (bs := bs) (ys := lb n v) (k := k) (by rw [lb_len]; exact h)
  rw [lb_len] at this
  rw [this, le_lb]
theorem le_new {bs : List Int} {N n : Nat} (h : n ≤ N) : le (((bs ++ List.replicate N 0).drop bs.length).take n) = 0 := by
  rw [List.drop_left' rfl, List.take_replicate, Nat.min_eq_left h, le_zero]
theorem bel_on {w a b : World} (h1 : Below w.heap.size w a) (h2 : Below a.heap.size a b) : Below w.heap.size w b := h1.trans (h2.mono h1.size)
end Mm
theorem mLoadV {w : World} {b r : Nat} {mo : Int} {pg : Nat} {bs : List Int} (h : Mem w b r mo pg bs) (at_ : Nat) (n : Nat) (x : Int) (hn : n = 1 ∨ n = 2 ∨ n = 4 ∨ n = 8) (hk : at_ + n ≤ bs.length) (hx : le ((bs.drop at_).take n) = x) :
    Calls Try.prog 16 #[.pointer (some ⟨b, 0, none⟩), .int .u64 at_, .int .i64 n] w fun e w' => e = .returned (.tuple #[.int .u64 x, .bool true]) ∧ w' = w := by
  have := mLoadY h at_ n hn (fits_of (by omega))
  rwa [hx] at this
theorem mLoadF {w : World} {b r : Nat} {mo : Int} {pg : Nat} {bs : List Int} (h : Mem w b r mo pg bs) (at_ : Nat) (n : Nat) (ha : at_ ≤ 18446744073709551615) (hk : ¬ at_ + n ≤ bs.length) :
    Calls Try.prog 16 #[.pointer (some ⟨b, 0, none⟩), .int .u64 at_, .int .i64 n] w fun e w' => e = .returned (.tuple #[.int .u64 0, .bool false]) ∧ w' = w :=
  mLoadN h at_ n ha (by rw [fits_not (by rw [show Int.toNat (n : Int) = n from rfl]; omega), Bool.and_false])
set_option maxHeartbeats 4000000 in
theorem growsC (a0 a1 a2 : Int) (h0 : 0 ≤ a0 ∧ a0 ≤ 18446744073709551615) (h1 : 0 ≤ a1 ∧ a1 ≤ 18446744073709551615) (h2 : 0 ≤ a2 ∧ a2 ≤ 255) (w : World) :
    Calls Try.prog 7 #[.int .u64 a0, .int .u64 a1, .int .u8 a2] w fun e w' => e = .returned (.bool true) ∧ Below w.heap.size w w' := by
  obtain ⟨k, hk⟩ : ∃ k : Nat, a0.tmod 65529 = (k : Int) := ⟨(a0 % 65529).toNat, by rw [Int.tmod_eq_emod_of_nonneg h0.1]; omega⟩
  have hk4 : k < 65529 := by rw [Int.tmod_eq_emod_of_nonneg h0.1] at hk; omega
  obtain ⟨q, hq⟩ : ∃ q : Nat, a2.tmod 40 = (q : Int) := ⟨(a2 % 40).toNat, by rw [Int.tmod_eq_emod_of_nonneg h2.1]; omega⟩
  have hq4 : q < 40 := by rw [Int.tmod_eq_emod_of_nonneg h2.1] at hq; omega
  have HN := hideR (mNew (w := w) 1 0 false (by omega))
  rw [show mostp (1 : Nat) 0 false = 32 from rfl] at HN
  go_enter Try.func7, Try.ntmps7
  go_wp2_with (go_at_call 8; refine HN.out.mono ?_; rintro e w1 ⟨⟨v, rfl, b, r, Z, rfl, hb, hr, hm, hz⟩, hB⟩; have HM := hideR hm; have HB := hideR hB; have Hb := hideR hb; have Hr := hideR hr; clear hm hB hb hr HN hz)
  have hl := HM.out.len
  have HS := hideR (mStoreY HM.out k 8 a1 h1 (by omega) (fits_of (by omega)))
  rw [show ((8 : Nat) : Int) = 8 from rfl] at HS
  refine HS.out.mono ?_
  rintro e w2 ⟨rfl, hm2, hf2⟩
  have hb2 := hf2.below HB.out (by intro j hj; rw [List.mem_singleton.1 hj]; exact Hr.out)
  have hv8 : le (((put Z k (lb 8 a1)).drop k).take 8) = a1 := by rw [le_put (by omega)]; exact Int.emod_eq_of_lt h1.1 (by omega)
  have hl2 : (put Z k (lb 8 a1)).length = 65536 := by rw [put_len (by rw [lb_len]; omega)]; omega
  generalize put Z k (lb 8 a1) = bs at *
  have HF := hideR (mFork hm2)
  have HM2 := hideR hm2
  have HB2 := hideR hb2
  have HV := hideR hv8
  clear hm2 hf2 hb2 HS HB HM hl hv8
  go_wp2_with (go_at_call 12; refine HF.out.mono ?_; rintro e w3 ⟨⟨b', r', rfl, hb', hr', hm3⟩, hB3⟩; have HM3 := hideR hm3; have HB3 := hideR hB3; have Hb' := hideR hb'; have Hr' := hideR hr'; clear hm3 hB3 hb' hr' HF)
  have hm := HM2.out.on0 HB3.out
  have hB3 := bel_on HB2.out HB3.out
  have n1 : b' ≠ b := by have := HM2.out.lt; have := Hb'.out; omega
  have n2 : r' ≠ b := by have := HM2.out.lt; have := Hr'.out; omega
  have HB4 := hideR hB3
  have HNE := hideR (And.intro n1 n2)
  clear hB3 n1 n2 HM2 HB2 HB3 Hb' Hr'
  by_cases hc : 31 < q
  · have HG := hideR (mGrowN hm q (by omega))
    have d1 : decide ((q : Int) > 31) = true := decide_eq_true (by omega)
    refine HG.out.mono ?_
    rintro e w' ⟨rfl, rfl⟩
    have HL1 := hideR (mLoadV hm k 8 a1 (by omega) (by omega) HV.out)
    have HL2 := hideR (mLoadF hm 65536 8 (by omega) (by omega))
    have HL3 := hideR (mLoadV HM3.out k 8 a1 (by omega) (by omega) HV.out)
    have HP := hideR (mPages hm)
    have HP' := hideR (mPages HM3.out)
    rw [show ((8 : Nat) : Int) = 8 from rfl] at HL1 HL2 HL3
    rw [show ((65536 : Nat) : Int) = 65536 from rfl] at HL2
    rw [show ((1 : Nat) : Int) = 1 from rfl] at HP HP'
    clear hm
    go_wp2_with fail
    refine HL1.out.mono ?_
    rintro e w' ⟨rfl, rfl⟩
    go_wp2_with fail
    refine HL2.out.mono ?_
    rintro e w' ⟨rfl, rfl⟩
    go_wp2_with fail
    refine HL3.out.mono ?_
    rintro e w' ⟨rfl, rfl⟩
    go_wp2_with (first | (go_at_call 17; refine HP.out.mono ?_; rintro e w' ⟨rfl, rfl⟩) | (go_at_call 19; refine (mWakes _).mono ?_; rintro e w3 ⟨rfl, hb3⟩; have HB5 := hideR hb3; clear hb3))
    go_ret
    exact ⟨rfl, bel_on HB4.out HB5.out⟩
  by_cases hz : q = 0
  · subst hz
    have HG := hideR (mGrow0 hm)
    refine HG.out.mono ?_
    rintro e w' ⟨rfl, rfl⟩
    rw [show ((1 : Nat) : Int) = 1 from rfl]
    have HL1 := hideR (mLoadV hm k 8 a1 (by omega) (by omega) HV.out)
    have HL2 := hideR (mLoadF hm 65536 8 (by omega) (by omega))
    have HL3 := hideR (mLoadV HM3.out k 8 a1 (by omega) (by omega) HV.out)
    have HP := hideR (mPages hm)
    have HP' := hideR (mPages HM3.out)
    rw [show ((8 : Nat) : Int) = 8 from rfl] at HL1 HL2 HL3
    rw [show ((65536 : Nat) : Int) = 65536 from rfl] at HL2
    rw [show ((1 : Nat) : Int) = 1 from rfl] at HP HP'
    clear hm
    go_wp2_with fail
    refine HL1.out.mono ?_
    rintro e w' ⟨rfl, rfl⟩
    go_wp2_with fail
    refine HL2.out.mono ?_
    rintro e w' ⟨rfl, rfl⟩
    go_wp2_with fail
    refine HL3.out.mono ?_
    rintro e w' ⟨rfl, rfl⟩
    go_wp2_with fail
    refine HP.out.mono ?_
    rintro e w' ⟨rfl, rfl⟩
    go_wp2_with fail
    refine HP'.out.mono ?_
    rintro e w' ⟨rfl, rfl⟩
    go_wp2_with (go_at_call 19; refine (mWakes _).mono ?_; rintro e w3 ⟨rfl, hb3⟩; have HB5 := hideR hb3; clear hb3)
    go_ret
    exact ⟨rfl, bel_on HB4.out HB5.out⟩
  · have HG := hideR (mGrowY hm q (by omega) (by omega))
    have d1 : decide ((q : Int) > 31) = false := decide_eq_false (by omega)
    have d2 : decide ((q : Int) > 0) = true := decide_eq_true (by omega)
    have d3 : ((1 : Int) + q == 1 + (q : Int)) = true := by simp
    refine HG.out.mono ?_
    rintro e w4 ⟨rfl, ⟨r4, Z2, hr4, hm4, hz2⟩, hf4⟩
    have hm3 := HM3.out.on hf4 (by rw [List.mem_singleton]; exact HNE.out.1) (by rw [List.mem_singleton]; exact HNE.out.2)
    have hb4 := hf4.below HB4.out (by intro j hj; rw [List.mem_singleton.1 hj]; exact Hb.out)
    have hz2' := hz2.out
    have hZ2 : Z2.length = q * 65536 := by rw [hz2', List.length_replicate]
    have hla : (bs ++ Z2).length = 65536 + q * 65536 := by rw [List.length_append, hl2, hZ2]
    have HL1 := hideR (mLoadV hm4 k 8 a1 (by omega) (by omega) (by rw [put_app (ys := []) (by omega)]; exact HV.out))
    have HL2 := hideR (mLoadV hm4 65536 8 0 (by omega) (by omega) (by have e := le_new (bs := bs) (N := q * 65536) (n := 8) (by omega); rw [hl2] at e; rw [hz2']; exact e))
    have HL3 := hideR (mLoadV hm3 k 8 a1 (by omega) (by omega) HV.out)
    have HP := hideR (mPages hm4)
    have HP' := hideR (mPages hm3)
    rw [show ((8 : Nat) : Int) = 8 from rfl] at HL1 HL2 HL3
    rw [show ((65536 : Nat) : Int) = 65536 from rfl] at HL2
    rw [show ((1 : Nat) : Int) = 1 from rfl] at HP'
    rw [show ((1 + q : Nat) : Int) = 1 + (q : Int) by omega] at HP
    rw [show ((1 : Nat) : Int) = 1 from rfl]
    have HB6 := hideR hb4
    clear hm hm3 hm4 hf4 hb4 hz2 hz2' hZ2 hla HG hr4
    go_wp2_with fail
    refine HL1.out.mono ?_
    rintro e w' ⟨rfl, rfl⟩
    go_wp2_with fail
    refine HL2.out.mono ?_
    rintro e w' ⟨rfl, rfl⟩
    go_wp2_with fail
    refine HL3.out.mono ?_
    rintro e w' ⟨rfl, rfl⟩
    go_wp2_with fail
    refine HP.out.mono ?_
    rintro e w' ⟨rfl, rfl⟩
    go_wp2_with fail
    refine HP'.out.mono ?_
    rintro e w' ⟨rfl, rfl⟩
    go_wp2_with (go_at_call 19; refine (mWakes _).mono ?_; rintro e w3 ⟨rfl, hb3⟩; have HB5 := hideR hb3; clear hb3)
    go_ret
    exact ⟨rfl, bel_on HB6.out HB5.out⟩
end Go.Proofs.Ytagcdnkgochpnaa
