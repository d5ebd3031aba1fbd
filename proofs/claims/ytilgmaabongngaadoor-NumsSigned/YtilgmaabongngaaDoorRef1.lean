/- What the document's own function of one value answers: the plain function; nothing is changed. -/
import Derived.Test.YtilgmaabongngaaDoorRef
import Derived.Test.YtilgmaabongngaaDoorAr
namespace Go.Proofs.YtilgmaabongngaaDoor
open Go.RowKit
set_option linter.unusedVariables false

theorem clz_on (a : Int) (W k : Nat) (hk : k < W) (h : decide (a / 2 ^ (W - 1 - k) % 2 = 1) = false) (hi : Nums.clz a W = k + Nums.clz a (W - k)) : Nums.clz a W = (k + 1) + Nums.clz a (W - (k + 1)) := by
  rw [hi, show W - k = (W - 1 - k) + 1 by omega]
  conv => lhs; unfold Nums.clz
  rw [if_neg (by simpa using h), show W - (k + 1) = W - 1 - k by omega]
  omega
theorem clz_stop (a : Int) (W k : Nat) (hk : k < W) (h : decide (a / 2 ^ (W - 1 - k) % 2 = 1) = true) (hi : Nums.clz a W = k + Nums.clz a (W - k)) : Nums.clz a W = k := by
  rw [hi, show W - k = (W - 1 - k) + 1 by omega]
  conv => lhs; unfold Nums.clz
  rw [if_pos (by simpa using h)]
  rfl
theorem clz_all (a : Int) (W k : Nat) (hk : ¬ k < W) (hi : Nums.clz a W = k + Nums.clz a (W - k)) : Nums.clz a W = k := by
  rw [hi, show W - k = 0 by omega]; rfl
theorem ctz_on (a : Int) (W k : Nat) (hk : k < W) (h : decide (a / 2 ^ k % 2 = 1) = false) (hi : Nums.ctz W a = k + Nums.ctz (W - k) (a / 2 ^ k)) : Nums.ctz W a = (k + 1) + Nums.ctz (W - (k + 1)) (a / 2 ^ (k + 1)) := by
  rw [hi, show W - k = (W - (k + 1)) + 1 by omega]
  conv => lhs; unfold Nums.ctz
  rw [if_neg (by simpa using h), Nums.pow_succ_ediv]
  omega
theorem ctz_stop (a : Int) (W k : Nat) (hk : k < W) (h : decide (a / 2 ^ k % 2 = 1) = true) (hi : Nums.ctz W a = k + Nums.ctz (W - k) (a / 2 ^ k)) : Nums.ctz W a = k := by
  rw [hi, show W - k = (W - (k + 1)) + 1 by omega]
  conv => lhs; unfold Nums.ctz
  rw [if_pos (by simpa using h)]
  rfl
theorem ctz_all (a : Int) (W k : Nat) (hk : ¬ k < W) (hi : Nums.ctz W a = k + Nums.ctz (W - k) (a / 2 ^ k)) : Nums.ctz W a = k := by
  rw [hi, show W - k = 0 by omega]; rfl
theorem pop_on (a : Int) (W k n P : Nat) (hk : k < W) (hi : P = n + Nums.pop (W - k) (a / 2 ^ k)) : P = n + (a / 2 ^ k % 2).toNat + Nums.pop (W - (k + 1)) (a / 2 ^ (k + 1)) := by
  rw [hi, show W - k = (W - (k + 1)) + 1 by omega]
  conv => lhs; unfold Nums.pop
  rw [Nums.pow_succ_ediv]
  omega
theorem pop_on1 (a : Int) (W k n P : Nat) (hk : k < W) (h : decide (a / 2 ^ k % 2 = 1) = true) (hi : P = n + Nums.pop (W - k) (a / 2 ^ k)) : P = (n + 1) + Nums.pop (W - (k + 1)) (a / 2 ^ (k + 1)) := by
  have h4 : a / 2 ^ k % 2 = 1 := by simpa using h
  rw [pop_on a W k n P hk hi, h4]; rfl
theorem pop_on0 (a : Int) (W k n P : Nat) (hk : k < W) (h : decide (a / 2 ^ k % 2 = 1) = false) (hi : P = n + Nums.pop (W - k) (a / 2 ^ k)) : P = n + Nums.pop (W - (k + 1)) (a / 2 ^ (k + 1)) := by
  have h5 : ¬ a / 2 ^ k % 2 = 1 := by simpa using h
  have h4 : a / 2 ^ k % 2 = 0 := by omega
  rw [pop_on a W k n P hk hi, h4]; rfl
theorem pop_all (a : Int) (W k n P : Nat) (hk : ¬ k < W) (hi : P = n + Nums.pop (W - k) (a / 2 ^ k)) : P = n := by
  rw [hi, show W - k = 0 by omega]; rfl
theorem pop_start (a : Int) (W P : Nat) (h : Nums.pop W a = P) : P = 0 + Nums.pop (W - 0) (a / 2 ^ 0) := by
  rw [Nat.zero_add, Int.pow_zero, Int.ediv_one, Nat.sub_zero, h]

set_option maxHeartbeats 1000000 in
theorem refUn103 (a0 : Int) (w : World) (h0 : 0 ≤ a0) (h1 : a0 ≤ 18446744073709551615) :
    Calls Tryd.prog 9 #[.int .i64 103, .int .u64 a0] w fun e w' => e = .returned (.tuple #[.int .u64 ((Nums.clz (a0 % 4294967296) 32 : Nat)), .bool true]) ∧ w' = w := by
  have ha : 0 ≤ a0 % 4294967296 ∧ a0 % 4294967296 ≤ 18446744073709551615 := by omega
  go_enter Tryd.func9, Tryd.ntmps9
  go_wp2_with fail
  refine (refSig _ _).mono ?_
  rintro e u ⟨rfl, rfl⟩
  rw [show Nums.sig 103 = (1, 127, 127) from rfl]
  go_wp2_with fail
  go_loop [10] (fun i => ∃ k : Nat, k ≤ 32 ∧ i = .int .i64 k ∧ Nums.clz (a0 % 4294967296) 32 = k + Nums.clz (a0 % 4294967296) (32 - k)) (fun i => 32 - (intOf i).toNat)
  case atStart => exact ⟨0, by omega, rfl, by rw [Nat.zero_add]⟩
  case round =>
    obtain ⟨k, hk, rfl, hgr⟩ := hrel
    have HG := hide hgr
    clear hgr
    by_cases h1 : k < 32
    · have hb := refBit (a0 % 4294967296) ((31 : Int) - k) u ha.1 ha.2 (by omega) (by omega)
      have he : ((31 : Int) - k).toNat = 32 - 1 - k := by omega
      rw [he] at hb
      by_cases h3 : decide ((a0 % 4294967296) / 2 ^ (32 - 1 - k) % 2 = 1) = true
      · have hfin := hide (clz_stop (a0 % 4294967296) 32 k h1 h3 HG.out)
        rw [h3] at hb
        have HB := hide hb
        clear hb HG he h3
        go_wp2_with fail
        refine HB.out.mono ?_
        rintro e u ⟨rfl, rfl⟩
        go_wp2
        go_ret2
        exact ⟨ub_ret (by rw [hfin.out]), rfl⟩
      · rw [Bool.not_eq_true] at h3
        have hfin := hide (clz_on (a0 % 4294967296) 32 k h1 h3 HG.out)
        rw [h3] at hb
        have HB := hide hb
        clear hb HG he h3
        go_wp2_with fail
        refine HB.out.mono ?_
        rintro e u ⟨rfl, rfl⟩
        go_wp2
        go_round
        case rel => exact ⟨k + 1, by omega, by go_num, hfin.out⟩
        case measure => simp [intOf]; omega
    · have hfin := clz_all (a0 % 4294967296) 32 k h1 HG.out
      clear HG
      go_wp2
      go_ret2
      exact ⟨rfl, rfl⟩

set_option maxHeartbeats 1000000 in
theorem refUn121 (a0 : Int) (w : World) (h0 : 0 ≤ a0) (h1 : a0 ≤ 18446744073709551615) :
    Calls Tryd.prog 9 #[.int .i64 121, .int .u64 a0] w fun e w' => e = .returned (.tuple #[.int .u64 ((Nums.clz (a0) 64 : Nat)), .bool true]) ∧ w' = w := by
  have ha : 0 ≤ a0 ∧ a0 ≤ 18446744073709551615 := by omega
  go_enter Tryd.func9, Tryd.ntmps9
  go_wp2_with fail
  refine (refSig _ _).mono ?_
  rintro e u ⟨rfl, rfl⟩
  rw [show Nums.sig 121 = (1, 126, 126) from rfl]
  go_wp2_with fail
  go_loop [10] (fun i => ∃ k : Nat, k ≤ 64 ∧ i = .int .i64 k ∧ Nums.clz a0 64 = k + Nums.clz a0 (64 - k)) (fun i => 64 - (intOf i).toNat)
  case atStart => exact ⟨0, by omega, rfl, by rw [Nat.zero_add]⟩
  case round =>
    obtain ⟨k, hk, rfl, hgr⟩ := hrel
    have HG := hide hgr
    clear hgr
    by_cases h1 : k < 64
    · have hb := refBit a0 ((63 : Int) - k) u ha.1 ha.2 (by omega) (by omega)
      have he : ((63 : Int) - k).toNat = 64 - 1 - k := by omega
      rw [he] at hb
      by_cases h3 : decide (a0 / 2 ^ (64 - 1 - k) % 2 = 1) = true
      · have hfin := hide (clz_stop a0 64 k h1 h3 HG.out)
        rw [h3] at hb
        have HB := hide hb
        clear hb HG he h3
        go_wp2_with fail
        refine HB.out.mono ?_
        rintro e u ⟨rfl, rfl⟩
        go_wp2
        go_ret2
        exact ⟨ub_ret (by rw [hfin.out]), rfl⟩
      · rw [Bool.not_eq_true] at h3
        have hfin := hide (clz_on a0 64 k h1 h3 HG.out)
        rw [h3] at hb
        have HB := hide hb
        clear hb HG he h3
        go_wp2_with fail
        refine HB.out.mono ?_
        rintro e u ⟨rfl, rfl⟩
        go_wp2
        go_round
        case rel => exact ⟨k + 1, by omega, by go_num, hfin.out⟩
        case measure => simp [intOf]; omega
    · have hfin := clz_all a0 64 k h1 HG.out
      clear HG
      go_wp2
      go_ret2
      exact ⟨rfl, rfl⟩

set_option maxHeartbeats 1000000 in
theorem refUn104 (a0 : Int) (w : World) (h0 : 0 ≤ a0) (h1 : a0 ≤ 18446744073709551615) :
    Calls Tryd.prog 9 #[.int .i64 104, .int .u64 a0] w fun e w' => e = .returned (.tuple #[.int .u64 ((Nums.ctz 32 (a0 % 4294967296) : Nat)), .bool true]) ∧ w' = w := by
  have ha : 0 ≤ a0 % 4294967296 ∧ a0 % 4294967296 ≤ 18446744073709551615 := by omega
  go_enter Tryd.func9, Tryd.ntmps9
  go_wp2_with fail
  refine (refSig _ _).mono ?_
  rintro e u ⟨rfl, rfl⟩
  rw [show Nums.sig 104 = (1, 127, 127) from rfl]
  go_wp2_with fail
  go_loop [11] (fun i => ∃ k : Nat, k ≤ 32 ∧ i = .int .i64 k ∧ Nums.ctz 32 (a0 % 4294967296) = k + Nums.ctz (32 - k) ((a0 % 4294967296) / 2 ^ k)) (fun i => 32 - (intOf i).toNat)
  case atStart => exact ⟨0, by omega, rfl, by rw [Nat.zero_add, Int.pow_zero, Int.ediv_one]⟩
  case round =>
    obtain ⟨k, hk, rfl, hgr⟩ := hrel
    have HG := hide hgr
    clear hgr
    by_cases h1 : k < 32
    · have hb := refBit (a0 % 4294967296) (k : Int) u ha.1 ha.2 (by omega) (by omega)
      have he : ((k : Int)).toNat = k := by omega
      rw [he] at hb
      by_cases h3 : decide ((a0 % 4294967296) / 2 ^ k % 2 = 1) = true
      · have hfin := hide (ctz_stop (a0 % 4294967296) 32 k h1 h3 HG.out)
        rw [h3] at hb
        have HB := hide hb
        clear hb HG he h3
        go_wp2_with fail
        refine HB.out.mono ?_
        rintro e u ⟨rfl, rfl⟩
        go_wp2
        go_ret2
        exact ⟨ub_ret (by rw [hfin.out]), rfl⟩
      · rw [Bool.not_eq_true] at h3
        have hfin := hide (ctz_on (a0 % 4294967296) 32 k h1 h3 HG.out)
        rw [h3] at hb
        have HB := hide hb
        clear hb HG he h3
        go_wp2_with fail
        refine HB.out.mono ?_
        rintro e u ⟨rfl, rfl⟩
        go_wp2
        go_round
        case rel => exact ⟨k + 1, by omega, by go_num, hfin.out⟩
        case measure => simp [intOf]; omega
    · have hfin := ctz_all (a0 % 4294967296) 32 k h1 HG.out
      clear HG
      go_wp2
      go_ret2
      exact ⟨rfl, rfl⟩

set_option maxHeartbeats 1000000 in
theorem refUn122 (a0 : Int) (w : World) (h0 : 0 ≤ a0) (h1 : a0 ≤ 18446744073709551615) :
    Calls Tryd.prog 9 #[.int .i64 122, .int .u64 a0] w fun e w' => e = .returned (.tuple #[.int .u64 ((Nums.ctz 64 (a0) : Nat)), .bool true]) ∧ w' = w := by
  have ha : 0 ≤ a0 ∧ a0 ≤ 18446744073709551615 := by omega
  go_enter Tryd.func9, Tryd.ntmps9
  go_wp2_with fail
  refine (refSig _ _).mono ?_
  rintro e u ⟨rfl, rfl⟩
  rw [show Nums.sig 122 = (1, 126, 126) from rfl]
  go_wp2_with fail
  go_loop [11] (fun i => ∃ k : Nat, k ≤ 64 ∧ i = .int .i64 k ∧ Nums.ctz 64 a0 = k + Nums.ctz (64 - k) (a0 / 2 ^ k)) (fun i => 64 - (intOf i).toNat)
  case atStart => exact ⟨0, by omega, rfl, by rw [Nat.zero_add, Int.pow_zero, Int.ediv_one]⟩
  case round =>
    obtain ⟨k, hk, rfl, hgr⟩ := hrel
    have HG := hide hgr
    clear hgr
    by_cases h1 : k < 64
    · have hb := refBit a0 (k : Int) u ha.1 ha.2 (by omega) (by omega)
      have he : ((k : Int)).toNat = k := by omega
      rw [he] at hb
      by_cases h3 : decide (a0 / 2 ^ k % 2 = 1) = true
      · have hfin := hide (ctz_stop a0 64 k h1 h3 HG.out)
        rw [h3] at hb
        have HB := hide hb
        clear hb HG he h3
        go_wp2_with fail
        refine HB.out.mono ?_
        rintro e u ⟨rfl, rfl⟩
        go_wp2
        go_ret2
        exact ⟨ub_ret (by rw [hfin.out]), rfl⟩
      · rw [Bool.not_eq_true] at h3
        have hfin := hide (ctz_on a0 64 k h1 h3 HG.out)
        rw [h3] at hb
        have HB := hide hb
        clear hb HG he h3
        go_wp2_with fail
        refine HB.out.mono ?_
        rintro e u ⟨rfl, rfl⟩
        go_wp2
        go_round
        case rel => exact ⟨k + 1, by omega, by go_num, hfin.out⟩
        case measure => simp [intOf]; omega
    · have hfin := ctz_all a0 64 k h1 HG.out
      clear HG
      go_wp2
      go_ret2
      exact ⟨rfl, rfl⟩

set_option maxHeartbeats 1000000 in
theorem refUn105 (a0 : Int) (w : World) (h0 : 0 ≤ a0) (h1 : a0 ≤ 18446744073709551615) :
    Calls Tryd.prog 9 #[.int .i64 105, .int .u64 a0] w fun e w' => e = .returned (.tuple #[.int .u64 ((Nums.pop 32 (a0 % 4294967296) : Nat)), .bool true]) ∧ w' = w := by
  have ha : 0 ≤ a0 % 4294967296 ∧ a0 % 4294967296 ≤ 18446744073709551615 := by omega
  obtain ⟨P, HP⟩ : ∃ P, Nums.pop 32 (a0 % 4294967296) = P := ⟨_, rfl⟩
  rw [HP]
  have HS := hide (pop_start _ _ _ HP)
  clear HP
  go_enter Tryd.func9, Tryd.ntmps9
  go_wp2_with fail
  refine (refSig _ _).mono ?_
  rintro e u ⟨rfl, rfl⟩
  rw [show Nums.sig 105 = (1, 127, 127) from rfl]
  go_wp2_with fail
  go_loop [12, 13] (fun n i => ∃ k m : Nat, k ≤ 32 ∧ m ≤ k ∧ i = .int .i64 k ∧ n = .int .i64 m ∧ P = m + Nums.pop (32 - k) ((a0 % 4294967296) / 2 ^ k)) (fun n i => 32 - (intOf i).toNat)
  case atStart => exact ⟨0, 0, by omega, by omega, rfl, rfl, HS.out⟩
  case round =>
    obtain ⟨k, m, hk, hm, rfl, rfl, hgr⟩ := hrel
    have HG := hide hgr
    clear hgr
    by_cases h1 : k < 32
    · have hb := refBit (a0 % 4294967296) (k : Int) u ha.1 ha.2 (by omega) (by omega)
      have he : ((k : Int)).toNat = k := by omega
      rw [he] at hb
      by_cases h3 : decide ((a0 % 4294967296) / 2 ^ k % 2 = 1) = true
      · have hfin := hide (pop_on1 (a0 % 4294967296) 32 k m P h1 h3 HG.out)
        rw [h3] at hb
        have HB := hide hb
        clear hb HG he h3
        go_wp2_with fail
        refine HB.out.mono ?_
        rintro e u ⟨rfl, rfl⟩
        go_wp2
        go_round
        case rel => exact ⟨k + 1, m + 1, by omega, by omega, by go_num, by go_num, hfin.out⟩
        case measure => simp [intOf]; omega
      · rw [Bool.not_eq_true] at h3
        have hfin := hide (pop_on0 (a0 % 4294967296) 32 k m P h1 h3 HG.out)
        rw [h3] at hb
        have HB := hide hb
        clear hb HG he h3
        go_wp2_with fail
        refine HB.out.mono ?_
        rintro e u ⟨rfl, rfl⟩
        go_wp2
        go_round
        case rel => exact ⟨k + 1, m, by omega, by omega, by go_num, rfl, hfin.out⟩
        case measure => simp [intOf]; omega
    · have hfin := pop_all (a0 % 4294967296) 32 k m P h1 HG.out
      clear HG
      go_wp2
      go_ret2
      exact ⟨rfl, rfl⟩

set_option maxHeartbeats 1000000 in
theorem refUn123 (a0 : Int) (w : World) (h0 : 0 ≤ a0) (h1 : a0 ≤ 18446744073709551615) :
    Calls Tryd.prog 9 #[.int .i64 123, .int .u64 a0] w fun e w' => e = .returned (.tuple #[.int .u64 ((Nums.pop 64 a0 : Nat)), .bool true]) ∧ w' = w := by
  have ha : 0 ≤ a0 ∧ a0 ≤ 18446744073709551615 := by omega
  obtain ⟨P, HP⟩ : ∃ P, Nums.pop 64 a0 = P := ⟨_, rfl⟩
  rw [HP]
  have HS := hide (pop_start _ _ _ HP)
  clear HP
  go_enter Tryd.func9, Tryd.ntmps9
  go_wp2_with fail
  refine (refSig _ _).mono ?_
  rintro e u ⟨rfl, rfl⟩
  rw [show Nums.sig 123 = (1, 126, 126) from rfl]
  go_wp2_with fail
  go_loop [12, 13] (fun n i => ∃ k m : Nat, k ≤ 64 ∧ m ≤ k ∧ i = .int .i64 k ∧ n = .int .i64 m ∧ P = m + Nums.pop (64 - k) (a0 / 2 ^ k)) (fun n i => 64 - (intOf i).toNat)
  case atStart => exact ⟨0, 0, by omega, by omega, rfl, rfl, HS.out⟩
  case round =>
    obtain ⟨k, m, hk, hm, rfl, rfl, hgr⟩ := hrel
    have HG := hide hgr
    clear hgr
    by_cases h1 : k < 64
    · have hb := refBit a0 (k : Int) u ha.1 ha.2 (by omega) (by omega)
      have he : ((k : Int)).toNat = k := by omega
      rw [he] at hb
      by_cases h3 : decide (a0 / 2 ^ k % 2 = 1) = true
      · have hfin := hide (pop_on1 a0 64 k m P h1 h3 HG.out)
        rw [h3] at hb
        have HB := hide hb
        clear hb HG he h3
        go_wp2_with fail
        refine HB.out.mono ?_
        rintro e u ⟨rfl, rfl⟩
        go_wp2
        go_round
        case rel => exact ⟨k + 1, m + 1, by omega, by omega, by go_num, by go_num, hfin.out⟩
        case measure => simp [intOf]; omega
      · rw [Bool.not_eq_true] at h3
        have hfin := hide (pop_on0 a0 64 k m P h1 h3 HG.out)
        rw [h3] at hb
        have HB := hide hb
        clear hb HG he h3
        go_wp2_with fail
        refine HB.out.mono ?_
        rintro e u ⟨rfl, rfl⟩
        go_wp2
        go_round
        case rel => exact ⟨k + 1, m, by omega, by omega, by go_num, rfl, hfin.out⟩
        case measure => simp [intOf]; omega
    · have hfin := pop_all a0 64 k m P h1 HG.out
      clear HG
      go_wp2
      go_ret2
      exact ⟨rfl, rfl⟩

set_option maxHeartbeats 1000000 in
theorem refUn69 (a0 : Int) (w : World) (h0 : 0 ≤ a0) (h1 : a0 ≤ 18446744073709551615) :
    Calls Tryd.prog 9 #[.int .i64 69, .int .u64 a0] w fun e w' => e = .returned (.tuple #[.int .u64 (if a0 % 4294967296 = 0 then 1 else 0), .bool true]) ∧ w' = w := by
  by_cases hz : a0 % 4294967296 = 0
  · rw [if_pos hz]
    have hz' : (a0 % 4294967296 == 0) = true := by simp [hz]
    clear hz
    go_enter Tryd.func9, Tryd.ntmps9
    go_wp2_with fail
    refine (refSig _ _).mono ?_
    rintro e u ⟨rfl, rfl⟩
    rw [show Nums.sig 69 = (1, 127, 127) from rfl]
    go_wp2
    go_ret2
    exact ⟨rfl, rfl⟩
  · rw [if_neg hz]
    have hz' : (a0 % 4294967296 == 0) = false := by simp [hz]
    clear hz
    go_enter Tryd.func9, Tryd.ntmps9
    go_wp2_with fail
    refine (refSig _ _).mono ?_
    rintro e u ⟨rfl, rfl⟩
    rw [show Nums.sig 69 = (1, 127, 127) from rfl]
    go_wp2
    go_ret2
    exact ⟨rfl, rfl⟩

set_option maxHeartbeats 1000000 in
theorem refUn80 (a0 : Int) (w : World) (h0 : 0 ≤ a0) (h1 : a0 ≤ 18446744073709551615) :
    Calls Tryd.prog 9 #[.int .i64 80, .int .u64 a0] w fun e w' => e = .returned (.tuple #[.int .u64 (if a0 = 0 then 1 else 0), .bool true]) ∧ w' = w := by
  by_cases hz : a0 = 0
  · rw [if_pos hz]
    have hz' : (a0 == 0) = true := by simp [hz]
    clear hz
    go_enter Tryd.func9, Tryd.ntmps9
    go_wp2_with fail
    refine (refSig _ _).mono ?_
    rintro e u ⟨rfl, rfl⟩
    rw [show Nums.sig 80 = (1, 126, 127) from rfl]
    go_wp2
    go_ret2
    exact ⟨rfl, rfl⟩
  · rw [if_neg hz]
    have hz' : (a0 == 0) = false := by simp [hz]
    clear hz
    go_enter Tryd.func9, Tryd.ntmps9
    go_wp2_with fail
    refine (refSig _ _).mono ?_
    rintro e u ⟨rfl, rfl⟩
    rw [show Nums.sig 80 = (1, 126, 127) from rfl]
    go_wp2
    go_ret2
    exact ⟨rfl, rfl⟩

set_option maxHeartbeats 1000000 in
theorem refUn167 (a0 : Int) (w : World) (h0 : 0 ≤ a0) (h1 : a0 ≤ 18446744073709551615) :
    Calls Tryd.prog 9 #[.int .i64 167, .int .u64 a0] w fun e w' => e = .returned (.tuple #[.int .u64 (a0 % 4294967296), .bool true]) ∧ w' = w := by
  go_enter Tryd.func9, Tryd.ntmps9
  go_wp2_with fail
  refine (refSig _ _).mono ?_
  rintro e u ⟨rfl, rfl⟩
  rw [show Nums.sig 167 = (1, 126, 127) from rfl]
  go_wp2
  go_ret2
  exact ⟨rfl, rfl⟩

set_option maxHeartbeats 1000000 in
theorem refUn172 (a0 : Int) (w : World) (h0 : 0 ≤ a0) (h1 : a0 ≤ 18446744073709551615) :
    Calls Tryd.prog 9 #[.int .i64 172, .int .u64 a0] w fun e w' => e = .returned (.tuple #[.int .u64 (Nums.sg 32 (a0 % 4294967296) % 18446744073709551616), .bool true]) ∧ w' = w := by
  go_enter Tryd.func9, Tryd.ntmps9
  go_wp2_with fail
  refine (refSig _ _).mono ?_
  rintro e u ⟨rfl, rfl⟩
  rw [show Nums.sig 172 = (1, 127, 126) from rfl]
  go_wp2
  go_ret2
  exact ⟨ub_ret (by rw [sg32_of, IntKind.wrap_u64]), rfl⟩

set_option maxHeartbeats 1000000 in
theorem refUn173 (a0 : Int) (w : World) (h0 : 0 ≤ a0) (h1 : a0 ≤ 18446744073709551615) :
    Calls Tryd.prog 9 #[.int .i64 173, .int .u64 a0] w fun e w' => e = .returned (.tuple #[.int .u64 (a0 % 4294967296), .bool true]) ∧ w' = w := by
  go_enter Tryd.func9, Tryd.ntmps9
  go_wp2_with fail
  refine (refSig _ _).mono ?_
  rintro e u ⟨rfl, rfl⟩
  rw [show Nums.sig 173 = (1, 127, 126) from rfl]
  go_wp2
  go_ret2
  exact ⟨rfl, rfl⟩

end Go.Proofs.YtilgmaabongngaaDoor
