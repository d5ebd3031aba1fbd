/- Eight bytes are the lower four and the upper four. -/
import Derived.Test.YtagcdnkgochpnaaM7
namespace Go.Proofs.Ytagcdnkgochpnaa
open Go.RowKit Mm
set_option linter.unusedVariables false
namespace Mm
theorem lb_add : ∀ (a b : Nat) (v : Int), lb (a + b) v = lb a v ++ lb b (v / 256 ^ a)
  | 0, b, v => by simp [lb]
  | a + 1, b, v => by
    rw [show a + 1 + b = (a + b) + 1 by omega]
    simp only [lb, List.cons_append]
    rw [lb_add a b, Int.pow_succ, Int.mul_comm (256 ^ a) 256, ← Int.ediv_ediv_of_nonneg (by decide)]
theorem le_low {bs : List Int} {k : Nat} {v : Int} (h : k + 8 ≤ bs.length) : le (((put bs k (lb 8 v)).drop k).take 4) = v % 4294967296 := by
  have h1 := put_mid (bs := bs) (ys := lb 8 v) (k := k) (by rw [lb_len]; exact h)
  rw [lb_len] at h1
  have h2 : ((put bs k (lb 8 v)).drop k).take 4 = (((put bs k (lb 8 v)).drop k).take 8).take 4 := by rw [List.take_take]; rfl
  rw [h2, h1, show (8 : Nat) = 4 + 4 from rfl, lb_add, List.take_left' (lb_len 4 v), le_lb]
  rfl
theorem le_high {bs : List Int} {k : Nat} {v : Int} (h : k + 8 ≤ bs.length) : le (((put bs k (lb 8 v)).drop (k + 4)).take 4) = v / 4294967296 % 4294967296 := by
  have h1 := put_mid (bs := bs) (ys := lb 8 v) (k := k) (by rw [lb_len]; exact h)
  rw [lb_len] at h1
  have h2 : ((put bs k (lb 8 v)).drop (k + 4)).take 4 = (((put bs k (lb 8 v)).drop k).take 8).drop 4 := by rw [List.drop_take, List.drop_drop]
  rw [h2, h1, show (8 : Nat) = 4 + 4 from rfl, lb_add, List.drop_left' (lb_len 4 v), le_lb]
  rfl
theorem str_get (xs : List Int) (h : ∀ x ∈ xs, 0 ≤ x ∧ x ≤ 255) (n : Nat) (hn : n < (strOfNums xs).size) (x : Int) (hx : xs[n]? = some x) : (((strOfNums xs)[n]'hn).toNat : Int) = x := by
  have hb := h x (List.mem_of_getElem? hx)
  have hl : n < xs.length := (List.getElem?_eq_some_iff.1 hx).1
  have he : xs[n] = x := (List.getElem?_eq_some_iff.1 hx).2
  show (((xs.map fun n => UInt8.ofNat n.toNat).toArray[n]'(by simpa using hl)).toNat : Int) = x
  simp only [List.getElem_toArray, List.getElem_map, he]
  rw [UInt8.toNat_ofNat']
  omega
end Mm
set_option maxHeartbeats 4000000 in
theorem eightC (a0 a1 : Int) (h0 : 0 ≤ a0 ∧ a0 ≤ 18446744073709551615) (h1 : 0 ≤ a1 ∧ a1 ≤ 18446744073709551615) (w : World) :
    Calls Try.prog 5 #[.int .u64 a0, .int .u64 a1] w fun e w' => e = .returned (.bool true) ∧ Below w.heap.size w w' := by
  obtain ⟨k, hk⟩ : ∃ k : Nat, a0.tmod 65529 = (k : Int) := ⟨(a0 % 65529).toNat, by rw [Int.tmod_eq_emod_of_nonneg h0.1]; omega⟩
  have hk4 : k < 65529 := by rw [Int.tmod_eq_emod_of_nonneg h0.1] at hk; omega
  have HN := hideR (mNew (w := w) 1 1 true (by omega))
  rw [show mostp (1 : Nat) 1 true = 1 from rfl] at HN
  go_enter Try.func5, Try.ntmps5
  go_wp2_with (go_at_call 8; refine HN.out.mono ?_; rintro e w1 ⟨⟨v, rfl, b, r, Z, rfl, hb, hr, hm, hz⟩, hB⟩; have HM := hideR hm; have HB := hideR hB; have Hb := hideR hb; have Hr := hideR hr; clear hm hB hb hr HN hz)
  have hl := HM.out.len
  have HS := hideR (mStoreY HM.out k 8 a1 h1 (by omega) (fits_of (by omega)))
  rw [show ((8 : Nat) : Int) = 8 from rfl] at HS
  refine HS.out.mono ?_
  rintro e w2 ⟨rfl, hm2, hf2⟩
  have hb2 := hf2.below HB.out (by intro j hj; rw [List.mem_singleton.1 hj]; exact Hr.out)
  have hl2 : (put Z k (lb 8 a1)).length = 65536 := by rw [put_len (by rw [lb_len]; omega)]; omega
  have HL1 := hideR (mLoadV hm2 k 4 (a1 % 4294967296) (by omega) (by omega) (le_low (by omega)))
  have HL2 := hideR (mLoadV hm2 (k + 4) 4 (a1 / 4294967296 % 4294967296) (by omega) (by omega) (le_high (by omega)))
  have HT := hideR (mTextY hm2 k 8 (fits_of (by omega)))
  have hmid := put_mid (bs := Z) (ys := lb 8 a1) (k := k) (by rw [lb_len]; omega)
  rw [lb_len] at hmid
  rw [hmid] at HT
  have hS8 : (strOfNums (lb 8 a1)).size = 8 := by rw [strOfNums_size, lb_len]
  have hSg : ∀ (n : Nat) (h : n < (strOfNums (lb 8 a1)).size), (((strOfNums (lb 8 a1))[n]'h).toNat : Int) = a1 / 2 ^ (8 * n) % 256 := fun n h => by
    rw [p256]; exact str_get _ (lb_bd 8 a1) n h _ (lb_get 8 a1 n (by rw [hS8] at h; exact h))
  have HG1 := hideR (mGrowN hm2 1 (by decide))
  have HG0 := hideR (mGrow0 hm2)
  rw [show ((4 : Nat) : Int) = 4 from rfl] at HL1 HL2
  rw [show ((k + 4 : Nat) : Int) = (k : Int) + 4 by omega] at HL2
  rw [show ((8 : Nat) : Int) = 8 from rfl] at HT
  rw [show ((1 : Nat) : Int) = 1 from rfl] at HG0
  have HB2 := hideR hb2
  generalize strOfNums (lb 8 a1) = S at *
  obtain ⟨A, hA⟩ : ∃ A, A = a1 % 4294967296 := ⟨_, rfl⟩
  obtain ⟨B, hB⟩ : ∃ B, B = a1 / 4294967296 % 4294967296 := ⟨_, rfl⟩
  rw [← hA] at HL1
  rw [← hB] at HL2
  have hA1 : 0 ≤ A ∧ A < 4294967296 := by omega
  have hB1 : 0 ≤ B ∧ B < 4294967296 := by omega
  have hAB : A + B * 4294967296 = a1 := by omega
  have hw1 : IntKind.u64.wrap (B * 4294967296) = B * 4294967296 := wrap_u64 (by omega) (by omega)
  clear hm2 hf2 hb2 HS HB HM hl hl2 hmid hA hB
  go_wp2_with fail
  refine HL1.out.mono ?_
  rintro e w' ⟨rfl, rfl⟩
  go_wp2_with fail
  refine HL2.out.mono ?_
  rintro e w' ⟨rfl, rfl⟩
  go_wp2_with fail
  refine HT.out.mono ?_
  rintro e w' ⟨rfl, rfl⟩
  go_wp2_with fail
  go_loopw [15] (fun i wr => ∃ j : Nat, j ≤ 8 ∧ i = .int .i64 j ∧ wr = w') (fun i _ => 8 - (intOf i).toNat)
  case atStart => exact ⟨0, by omega, rfl, rfl⟩
  case round =>
    obtain ⟨j, hj, rfl, rfl⟩ := hrel
    by_cases hgo : j < 8
    · have hjs : j < S.size := by omega
      go_wp2
      go_roundw
      case rel => exact ⟨j + 1, by omega, by go_num, trivial⟩
      case measure => simp [intOf]; omega
    · go_wp2_with fail
      refine HG1.out.mono ?_
      rintro e w' ⟨rfl, rfl⟩
      go_wp2_with fail
      refine HG0.out.mono ?_
      rintro e w' ⟨rfl, rfl⟩
      go_wp2_with (go_at_call 19; refine (mWakes _).mono ?_; rintro e w3 ⟨rfl, hb3⟩; have HB5 := hideR hb3; clear hb3)
      go_ret
      exact ⟨rfl, bel_on HB2.out HB5.out⟩
end Go.Proofs.Ytagcdnkgochpnaa
