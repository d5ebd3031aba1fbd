/- No memory: what each call of a nil one tells. -/
import Derived.Test.YtagcdnkgochpnaaQ4
namespace Go.Proofs.Ytagcdnkgochpnaa
open Go.RowKit Mm
set_option linter.unusedVariables false
set_option maxHeartbeats 1000000 in
theorem nPages (w : World)  :
    Calls Try.prog 17 #[.pointer none] w fun e w' => e = .returned (.int .i64 0) ∧ w' = w := by
  go_enter Try.func17, Try.ntmps17
  go_wp2
  go_ret
  exact ⟨rfl, rfl⟩
set_option maxHeartbeats 1000000 in
theorem nAll (w : World)  :
    Calls Try.prog 26 #[.pointer none] w fun e w' => e = .returned (.slice none 0 0) ∧ w' = w := by
  go_enter Try.func26, Try.ntmps26
  go_wp2
  go_ret
  exact ⟨rfl, rfl⟩
set_option maxHeartbeats 1000000 in
theorem nGrow (w : World) (n : Int) :
    Calls Try.prog 21 #[.pointer none, .int .u64 n] w fun e w' => e = .returned (.int .i64 (-1)) ∧ w' = w := by
  go_enter Try.func21, Try.ntmps21
  go_wp2
  go_ret
  exact ⟨rfl, rfl⟩
theorem fits0 (a n : Nat) : fits 0 a n = (decide (a = 0) && decide (n = 0)) := by
  unfold fits
  by_cases h1 : a = 0 <;> by_cases h2 : n = 0 <;> simp [h1, h2]
set_option maxHeartbeats 1000000 in
theorem nCut (w : World) (at_ n : Nat) (ha : at_ ≤ 18446744073709551615) (hn : n ≤ 18446744073709551615) :
    Calls Try.prog 35 #[.pointer none, .int .u64 at_, .int .u64 n] w fun e w' => e = .returned (.tuple #[.slice none 0 0, .bool (fits 0 at_ n)]) ∧ w' = w := by
  by_cases h1 : at_ = 0
  · subst h1
    rw [show ((0 : Nat) : Int) = 0 from rfl]
    by_cases h2 : n = 0
    · subst h2
      rw [show ((0 : Nat) : Int) = 0 from rfl, show fits 0 0 0 = true from rfl]
      go_enter Try.func35, Try.ntmps35
      go_wp2_with (go_at_call 26; refine (nAll _).mono ?_; rintro e w' ⟨rfl, rfl⟩)
      go_ret2
      exact ⟨rfl, rfl⟩
    · rw [fits_not (by omega)]
      have d1 : decide ((n : Int) > 0) = true := decide_eq_true (by omega)
      go_enter Try.func35, Try.ntmps35
      go_wp2_with (go_at_call 26; refine (nAll _).mono ?_; rintro e w' ⟨rfl, rfl⟩)
      go_ret2
      exact ⟨rfl, rfl⟩
  · rw [fits_not (by omega)]
    have d1 : decide ((at_ : Int) > 0) = true := decide_eq_true (by omega)
    go_enter Try.func35, Try.ntmps35
    go_wp2_with (go_at_call 26; refine (nAll _).mono ?_; rintro e w' ⟨rfl, rfl⟩)
    go_ret2
    exact ⟨rfl, rfl⟩
theorem szd_no0 {n : Int} (h : szd n = true) (a : Nat) : fits 0 a n.toNat = false := fits_not (by have := szd_of h; omega)
set_option maxHeartbeats 1000000 in
theorem nCutWord (w : World) (at_ : Nat) (n : Int) (ha : at_ ≤ 18446744073709551615) :
    Calls Try.prog 27 #[.pointer none, .int .u64 at_, .int .i64 n] w fun e w' => e = .returned (.tuple #[.slice none 0 0, .bool false]) ∧ w' = w := by
  by_cases hs : szd n = true
  · have HC := hideR (nCut w at_ n.toNat ha (by rcases szd_of hs with rfl | rfl | rfl | rfl <;> decide))
    rw [szd_no0 hs] at HC
    rcases szd_of hs with rfl | rfl | rfl | rfl
    all_goals (
      clear hs
      go_enter Try.func27, Try.ntmps27
      go_wp2_with (go_at_call 35; refine HC.out.mono ?_; rintro e w' ⟨rfl, rfl⟩)
      go_ret2
      exact ⟨rfl, rfl⟩)
  · have hs' : szd n = false := by simpa using hs
    obtain ⟨n1, n2, n4, n8⟩ := szd_not hs'
    clear hs hs'
    go_enter Try.func27, Try.ntmps27
    go_wp2
    go_ret2
    exact ⟨rfl, rfl⟩
set_option maxHeartbeats 1000000 in
theorem nCutText (w : World) (at_ n : Int) (ha : at_ ≤ 9223372036854775807) (hn : n ≤ 9223372036854775807) :
    Calls Try.prog 33 #[.pointer none, .int .i64 at_, .int .i64 n] w fun e w' => e = .returned (.tuple #[.slice none 0 0, .bool (decide (0 ≤ at_ ∧ 0 ≤ n) && fits 0 at_.toNat n.toNat)]) ∧ w' = w := by
  by_cases h1 : 0 ≤ at_
  · have d1 : decide (at_ < 0) = false := decide_eq_false (by omega)
    by_cases h2 : 0 ≤ n
    · have d2 : decide (n < 0) = false := decide_eq_false (by omega)
      rw [decide_eq_true (show 0 ≤ at_ ∧ 0 ≤ n from ⟨h1, h2⟩), Bool.true_and]
      obtain ⟨p, rfl⟩ := Int.eq_ofNat_of_zero_le h1
      obtain ⟨q, rfl⟩ := Int.eq_ofNat_of_zero_le h2
      have HC := hideR (nCut w p q (by omega) (by omega))
      rw [show Int.toNat (p : Int) = p from rfl, show Int.toNat (q : Int) = q from rfl]
      generalize fits 0 p q = ok at *
      clear h1 h2
      go_enter Try.func33, Try.ntmps33
      go_wp2_with (go_at_call 35; refine HC.out.mono ?_; rintro e w' ⟨rfl, rfl⟩)
      go_ret2
      exact ⟨rfl, rfl⟩
    · rw [decide_eq_false (fun h => h2 h.2), Bool.false_and]
      have d2 : decide (n < 0) = true := decide_eq_true (by omega)
      go_enter Try.func33, Try.ntmps33
      go_wp2
      go_ret2
      exact ⟨rfl, rfl⟩
  · rw [decide_eq_false (fun h => h1 h.1), Bool.false_and]
    have d1 : decide (at_ < 0) = true := decide_eq_true (by omega)
    go_enter Try.func33, Try.ntmps33
    go_wp2
    go_ret2
    exact ⟨rfl, rfl⟩
set_option maxHeartbeats 1000000 in
theorem nLoad (w : World) (at_ : Nat) (n : Int) (ha : at_ ≤ 18446744073709551615) :
    Calls Try.prog 16 #[.pointer none, .int .u64 at_, .int .i64 n] w fun e w' => e = .returned (.tuple #[.int .u64 0, .bool false]) ∧ w' = w := by
  have HC := hideR (nCutWord w at_ n ha)
  go_enter Try.func16, Try.ntmps16
  go_wp2_with (go_at_call 27; refine HC.out.mono ?_; rintro e w' ⟨rfl, rfl⟩)
  go_ret2
  exact ⟨rfl, rfl⟩
set_option maxHeartbeats 1000000 in
theorem nStore (w : World) (at_ : Nat) (n v : Int) (ha : at_ ≤ 18446744073709551615) :
    Calls Try.prog 14 #[.pointer none, .int .u64 at_, .int .i64 n, .int .u64 v] w fun e w' => e = .returned (.bool false) ∧ w' = w := by
  have HC := hideR (nCutWord w at_ n ha)
  go_enter Try.func14, Try.ntmps14
  go_wp2_with (go_at_call 27; refine HC.out.mono ?_; rintro e w' ⟨rfl, rfl⟩)
  go_loopw [21] (fun i wr => i = .int .i64 0 ∧ wr = w') (fun _ _ => 0)
  case atStart => exact ⟨rfl, rfl⟩
  case round =>
    obtain ⟨rfl, rfl⟩ := hrel
    go_wp2
    go_ret
    exact ⟨rfl, rfl⟩
set_option maxHeartbeats 1000000 in
theorem nText (w : World) (at_ n : Int) (ha : at_ ≤ 9223372036854775807) (hn : n ≤ 9223372036854775807) :
    Calls Try.prog 20 #[.pointer none, .int .i64 at_, .int .i64 n] w fun e w' => e = .returned (.tuple #[.string ByteArray.empty, .bool (decide (0 ≤ at_ ∧ 0 ≤ n) && fits 0 at_.toNat n.toNat)]) ∧ w' = w := by
  have HC := hideR (nCutText w at_ n ha hn)
  have hcv := fun c => run_convert_bytes_nil (P := Try.prog) w 60 5 Try.underlying60 Try.underlying5 0 c 9 Try.underlying9
  generalize (decide (0 ≤ at_ ∧ 0 ≤ n) && fits 0 at_.toNat n.toNat) = ok at *
  go_enter Try.func20, Try.ntmps20
  go_wp2_with (go_at_call 33; refine HC.out.mono ?_; rintro e w' ⟨rfl, rfl⟩)
  go_ret2
  exact ⟨rfl, rfl⟩
set_option maxHeartbeats 1000000 in
theorem nFill (w : World) (at_ : Int) (s : ByteArray) (ha : at_ ≤ 9223372036854775807) (hn : s.size ≤ 9223372036854775807) :
    Calls Try.prog 31 #[.pointer none, .int .i64 at_, .string s] w fun e w' => e = .returned (.bool (decide (0 ≤ at_) && fits 0 at_.toNat s.size)) ∧ w' = w := by
  have HC := hideR (nCutText w at_ s.size ha (by omega))
  have e : decide (0 ≤ at_ ∧ (0 : Int) ≤ s.size) = decide (0 ≤ at_) := by by_cases h : 0 ≤ at_ <;> simp [h]
  rw [show Int.toNat (s.size : Int) = s.size from rfl, e] at HC
  have hcv := fun c => copy_nil_string (P := Try.prog) w 60 9 3 5 c s Try.underlying60 size8s
  generalize (decide (0 ≤ at_) && fits 0 at_.toNat s.size) = ok at *
  clear e
  go_enter Try.func31, Try.ntmps31
  go_wp2_with (go_at_call 33; refine HC.out.mono ?_; rintro e w' ⟨rfl, rfl⟩)
  go_ret
  exact ⟨rfl, rfl⟩
set_option maxHeartbeats 1000000 in
theorem zPages (w : World)  :
    Calls Try.prog 10 #[.pointer none] w fun e w' => e = .returned (.int .i64 0) ∧ w' = w := by
  go_enter Try.func10, Try.ntmps10
  go_wp2
  go_ret
  exact ⟨rfl, rfl⟩
set_option maxHeartbeats 1000000 in
theorem zGrow (w : World) (n : Int) :
    Calls Try.prog 29 #[.pointer none, .int .u64 n] w fun e w' => e = .returned (.int .i64 (-1)) ∧ Below w.heap.size w w' := by
  go_enter Try.func29, Try.ntmps29
  go_wp2_with fail
  go_quiet (fail)
  go_wp2
  go_ret
  exact ⟨rfl, below_drewN' _ _⟩
set_option maxHeartbeats 1000000 in
theorem zThere (w : World) (at_ n : Nat) (ha : at_ ≤ 18446744073709551615) (hn : n ≤ 9223372036854775807) :
    Calls Try.prog 25 #[.pointer none, .int .u64 at_, .int .i64 n] w fun e w' => e = .returned (.bool (fits 0 at_ n)) ∧ w' = w := by
  by_cases h1 : at_ = 0
  · subst h1
    rw [show ((0 : Nat) : Int) = 0 from rfl]
    by_cases h2 : n = 0
    · subst h2
      rw [show ((0 : Nat) : Int) = 0 from rfl, show fits 0 0 0 = true from rfl]
      go_enter Try.func25, Try.ntmps25
      go_wp2
      go_ret
      exact ⟨rfl, rfl⟩
    · rw [fits_not (by omega)]
      have d1 : decide ((n : Int) ≤ 0) = false := decide_eq_false (by omega)
      go_enter Try.func25, Try.ntmps25
      go_wp2
      go_ret
      exact ⟨rfl, rfl⟩
  · rw [fits_not (by omega)]
    have d1 : decide ((at_ : Int) ≤ 0) = false := decide_eq_false (by omega)
    go_enter Try.func25, Try.ntmps25
    go_wp2
    go_ret
    exact ⟨rfl, rfl⟩
set_option maxHeartbeats 1000000 in
theorem zLoad (w : World) (at_ : Nat) (n v : Int) (ha : at_ ≤ 18446744073709551615) (hn : n ≤ 9223372036854775807) :
    Calls Try.prog 11 #[.pointer none, .int .u64 at_, .int .i64 n] w fun e w' => e = .returned (.tuple #[.int .u64 0, .bool false]) ∧ w' = w := by
  have HZ := hideR (qSized w n)
  by_cases hs : szd n = true
  · have hk := szd_no0 hs at_
    obtain ⟨k, rfl⟩ : ∃ k : Nat, n = (k : Int) := ⟨n.toNat, by have := szd_of hs; omega⟩
    have HT := hideR (zThere w at_ k ha (by omega))
    rw [show Int.toNat (k : Int) = k from rfl] at hk
    rw [hk] at HT
    rw [hs] at HZ
    clear hs hk
    go_enter Try.func11, Try.ntmps11
    go_wp2_with (first | (go_at_call 24; refine HZ.out.mono ?_; rintro e w' ⟨rfl, rfl⟩) | (go_at_call 25; refine HT.out.mono ?_; rintro e w' ⟨rfl, rfl⟩))
    go_ret2
    exact ⟨rfl, rfl⟩
  · have hs' : szd n = false := by simpa using hs
    rw [hs'] at HZ
    clear hs hs'
    go_enter Try.func11, Try.ntmps11
    go_wp2_with (first | (go_at_call 24; refine HZ.out.mono ?_; rintro e w' ⟨rfl, rfl⟩))
    go_ret2
    exact ⟨rfl, rfl⟩
set_option maxHeartbeats 1000000 in
theorem zStore (w : World) (at_ : Nat) (n v : Int) (ha : at_ ≤ 18446744073709551615) (hn : n ≤ 9223372036854775807) :
    Calls Try.prog 15 #[.pointer none, .int .u64 at_, .int .i64 n, .int .u64 v] w fun e w' => e = .returned (.bool false) ∧ w' = w := by
  have HZ := hideR (qSized w n)
  by_cases hs : szd n = true
  · have hk := szd_no0 hs at_
    obtain ⟨k, rfl⟩ : ∃ k : Nat, n = (k : Int) := ⟨n.toNat, by have := szd_of hs; omega⟩
    have HT := hideR (zThere w at_ k ha (by omega))
    rw [show Int.toNat (k : Int) = k from rfl] at hk
    rw [hk] at HT
    rw [hs] at HZ
    clear hs hk
    go_enter Try.func15, Try.ntmps15
    go_wp2_with (first | (go_at_call 24; refine HZ.out.mono ?_; rintro e w' ⟨rfl, rfl⟩) | (go_at_call 25; refine HT.out.mono ?_; rintro e w' ⟨rfl, rfl⟩))
    go_ret
    exact ⟨rfl, rfl⟩
  · have hs' : szd n = false := by simpa using hs
    rw [hs'] at HZ
    clear hs hs'
    go_enter Try.func15, Try.ntmps15
    go_wp2_with (first | (go_at_call 24; refine HZ.out.mono ?_; rintro e w' ⟨rfl, rfl⟩))
    go_ret
    exact ⟨rfl, rfl⟩
set_option maxHeartbeats 1000000 in
theorem zText (w : World) (at_ n : Int) (ha : at_ ≤ 9223372036854775807) (hn : n ≤ 9223372036854775807) :
    Calls Try.prog 30 #[.pointer none, .int .i64 at_, .int .i64 n] w fun e w' => e = .returned (.tuple #[.string ByteArray.empty, .bool (decide (0 ≤ at_ ∧ 0 ≤ n) && fits 0 at_.toNat n.toNat)]) ∧ w' = w := by
  by_cases h1 : 0 ≤ at_
  · have d1 : decide (at_ < 0) = false := decide_eq_false (by omega)
    by_cases h2 : 0 ≤ n
    · have d2 : decide (n < 0) = false := decide_eq_false (by omega)
      rw [decide_eq_true (show 0 ≤ at_ ∧ 0 ≤ n from ⟨h1, h2⟩), Bool.true_and]
      obtain ⟨p, rfl⟩ := Int.eq_ofNat_of_zero_le h1
      obtain ⟨q, rfl⟩ := Int.eq_ofNat_of_zero_le h2
      have HC := hideR (zThere w p q (by omega) (by omega))
      rw [show Int.toNat (p : Int) = p from rfl, show Int.toNat (q : Int) = q from rfl]
      by_cases hk : fits 0 p q = true
      · have hq : q = 0 := by have := of_decide_eq_true hk; omega
        rw [hk] at HC ⊢
        subst hq
        rw [show ((0 : Nat) : Int) = 0 from rfl] at HC ⊢
        clear hk h1 h2 d2
        go_enter Try.func30, Try.ntmps30
        go_wp2_with (go_at_call 25; refine HC.out.mono ?_; rintro e w' ⟨rfl, rfl⟩)
        go_ret2
        exact ⟨rfl, rfl⟩
      · have hk' : fits 0 p q = false := by simpa using hk
        rw [hk'] at HC ⊢
        clear hk hk' h1 h2
        go_enter Try.func30, Try.ntmps30
        go_wp2_with (go_at_call 25; refine HC.out.mono ?_; rintro e w' ⟨rfl, rfl⟩)
        go_ret2
        exact ⟨rfl, rfl⟩
    · rw [decide_eq_false (fun h => h2 h.2), Bool.false_and]
      have d2 : decide (n < 0) = true := decide_eq_true (by omega)
      go_enter Try.func30, Try.ntmps30
      go_wp2
      go_ret2
      exact ⟨rfl, rfl⟩
  · rw [decide_eq_false (fun h => h1 h.1), Bool.false_and]
    have d1 : decide (at_ < 0) = true := decide_eq_true (by omega)
    go_enter Try.func30, Try.ntmps30
    go_wp2
    go_ret2
    exact ⟨rfl, rfl⟩
set_option maxHeartbeats 1000000 in
theorem zFill (w : World) (at_ : Int) (s : ByteArray) (ha : at_ ≤ 9223372036854775807) (hn : s.size ≤ 9223372036854775807) :
    Calls Try.prog 32 #[.pointer none, .int .i64 at_, .string s] w fun e w' => e = .returned (.bool (decide (0 ≤ at_) && fits 0 at_.toNat s.size)) ∧ w' = w := by
  by_cases h1 : 0 ≤ at_
  · have d1 : decide (at_ < 0) = false := decide_eq_false (by omega)
    rw [decide_eq_true h1, Bool.true_and]
    obtain ⟨p, rfl⟩ := Int.eq_ofNat_of_zero_le h1
    have HC := hideR (zThere w p s.size (by omega) hn)
    rw [show Int.toNat (p : Int) = p from rfl]
    by_cases hk : fits 0 p s.size = true
    · have hq : s.size = 0 := by have := of_decide_eq_true hk; omega
      rw [hk] at HC ⊢
      rw [hq, show ((0 : Nat) : Int) = 0 from rfl] at HC
      clear hk h1
      go_enter Try.func32, Try.ntmps32
      go_wp2_with (go_at_call 25; refine HC.out.mono ?_; rintro e w' ⟨rfl, rfl⟩)
      go_ret
      exact ⟨rfl, rfl⟩
    · have hk' : fits 0 p s.size = false := by simpa using hk
      rw [hk'] at HC ⊢
      clear hk hk' h1
      go_enter Try.func32, Try.ntmps32
      go_wp2_with (go_at_call 25; refine HC.out.mono ?_; rintro e w' ⟨rfl, rfl⟩)
      go_ret
      exact ⟨rfl, rfl⟩
  · rw [decide_eq_false h1, Bool.false_and]
    have d1 : decide (at_ < 0) = true := decide_eq_true (by omega)
    go_enter Try.func32, Try.ntmps32
    go_wp2
    go_ret
    exact ⟨rfl, rfl⟩
set_option maxHeartbeats 1000000 in
theorem nNew (w : World) (mi ma : Int) (has : Bool) (h : mi < 0 ∨ 32 < mi) :
    Calls Try.prog 8 #[.agg #[.int .i64 mi, .int .i64 ma, .bool has]] w fun e w' => e = .returned (.tuple #[.pointer none, .int .i64 81]) ∧ Below w.heap.size w w' := by
  have HB := hideR ((Below.refl w.heap.size w).alloc (Nat.le_refl _) (.cells #[.int .i64 mi, .int .i64 ma, .bool has] 23))
  by_cases h1 : mi < 0
  · have d1 : decide (mi < 0) = true := decide_eq_true h1
    go_enter Try.func8, Try.ntmps8
    go_wp2
    go_ret2
    exact ⟨rfl, HB.out⟩
  · have d1 : decide (mi < 0) = false := decide_eq_false h1
    have d2 : decide (mi > 32) = true := decide_eq_true (by omega)
    go_enter Try.func8, Try.ntmps8
    go_wp2
    go_ret2
    exact ⟨rfl, HB.out⟩
set_option maxHeartbeats 1000000 in
theorem zNew (w : World) (mi ma : Int) (has : Bool) (h : mi < 0 ∨ 32 < mi) :
    Calls Try.prog 9 #[.agg #[.int .i64 mi, .int .i64 ma, .bool has]] w fun e w' => e = .returned (.tuple #[.pointer none, .int .i64 81]) ∧ Below w.heap.size w w' := by
  have HB := hideR ((Below.refl w.heap.size w).alloc (Nat.le_refl _) (.cells #[.int .i64 mi, .int .i64 ma, .bool has] 23))
  by_cases h1 : mi < 0
  · have d1 : decide (mi < 0) = true := decide_eq_true h1
    go_enter Try.func9, Try.ntmps9
    go_wp2
    go_ret2
    exact ⟨rfl, HB.out⟩
  · have d1 : decide (mi < 0) = false := decide_eq_false h1
    have d2 : decide (mi > 32) = true := decide_eq_true (by omega)
    go_enter Try.func9, Try.ntmps9
    go_wp2
    go_ret2
    exact ⟨rfl, HB.out⟩
end Go.Proofs.Ytagcdnkgochpnaa
