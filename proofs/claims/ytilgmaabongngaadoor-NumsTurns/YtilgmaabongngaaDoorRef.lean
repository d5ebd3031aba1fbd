/- What the document's own functions of layer 2 answer: the plain functions; nothing is changed. -/
import Derived.Test.YtilgmaabongngaaDoorRefSig
namespace Go.Proofs.YtilgmaabongngaaDoor
open Go.RowKit

set_option maxHeartbeats 400000 in
theorem refBit (a : Int) (k : Int) (w : World) (h0 : 0 ≤ a) (h1 : a ≤ 18446744073709551615) (k0 : 0 ≤ k) (k1 : k < 64) :
    Calls Tryd.prog 20 #[.int .u64 a, .int .i64 k] w fun e w' => e = .returned (.bool (decide (a / 2 ^ k.toNat % 2 = 1))) ∧ w' = w := by
  have hd := Nums.div_bd a k.toNat h0
  go_enter Tryd.func20, Tryd.ntmps20
  go_wp2
  go_ret
  refine ⟨ret_bool ?_, rfl⟩
  rw [Nums.and1 _ hd.1 (by omega)]
  rw [Bool.eq_iff_iff]
  simp

def Nums.holds (k a b x y : Int) : Bool :=
  if k = 0 then decide (a = b) else if k = 1 then decide (a ≠ b) else if k = 2 then decide (x < y) else if k = 3 then decide (a < b) else if k = 4 then decide (y < x)
  else if k = 5 then decide (b < a) else if k = 6 then decide (x ≤ y) else if k = 7 then decide (a ≤ b) else if k = 8 then decide (y ≤ x) else decide (b ≤ a)
def Nums.divide (k a b x y typ : Int) : Int × Int :=
  if b = 0 then (0, 2)
  else if k = 3 ∧ x = (if typ = 126 then -9223372036854775808 else -2147483648) ∧ y = -1 then (0, 3)
  else if k = 3 then (Nums.value (x.tdiv y) typ, 0)
  else if k = 4 then (a / b, 0)
  else if k = 5 then (Nums.value (x.tmod y) typ, 0)
  else (a % b, 0)
theorem dec_of_beq {a b : Int} {c : Bool} (h : (a == b) = c) : decide (a = b) = c := by rw [← h, Bool.eq_iff_iff]; simp

theorem sg32_of (v : Int) : wrap64 (wrap32 (v % 4294967296)) = Nums.sg 32 (v % 4294967296) := by
  have h : 0 ≤ v % 4294967296 ∧ v % 4294967296 < 4294967296 := by omega
  generalize v % 4294967296 = x at *
  unfold wrap64 wrap32 Nums.sg
  rw [Nums.hf32, Nums.md32]
  split <;> omega
theorem sg64_of (v : Int) (h0 : 0 ≤ v) (h1 : v ≤ 18446744073709551615) : wrap64 v = Nums.sg 64 v := by
  unfold wrap64 Nums.sg
  rw [Nums.hf64, Nums.md64]
  split <;> omega

set_option maxHeartbeats 400000 in
theorem refSigned (v typ : Int) (w : World) (h0 : 0 ≤ v) (h1 : v ≤ 18446744073709551615) :
    Calls Tryd.prog 14 #[.int .u64 v, .int .i64 typ] w fun e w' => e = .returned (.int .i64 (Nums.signed v typ)) ∧ w' = w := by
  go_enter Tryd.func14, Tryd.ntmps14
  go_wp2
  all_goals go_ret
  all_goals refine ⟨ret_int ?_, rfl⟩
  all_goals simp only [beq_iff_eq, beq_eq_false_iff_ne, ne_eq] at *
  all_goals simp only [Nums.signed, *, if_true, if_false]
  · exact sg32_of v
  · exact sg64_of v h0 h1

set_option maxHeartbeats 400000 in
theorem refValue (n typ : Int) (w : World) :
    Calls Tryd.prog 16 #[.int .i64 n, .int .i64 typ] w fun e w' => e = .returned (.int .u64 (Nums.value n typ)) ∧ w' = w := by
  go_enter Tryd.func16, Tryd.ntmps16
  go_wp2
  all_goals go_ret
  all_goals refine ⟨ret_int ?_, rfl⟩
  all_goals simp only [beq_iff_eq, beq_eq_false_iff_ne, ne_eq] at *
  all_goals simp only [Nums.value, *, if_true, if_false]
  all_goals first | rfl | omega | (simp [IntKind.wrap_u64]; done) | skip

set_option maxHeartbeats 1000000 in
theorem refHolds (k a b x y : Int) (w : World) :
    Calls Tryd.prog 21 #[.int .i64 k, .int .u64 a, .int .u64 b, .int .i64 x, .int .i64 y] w fun e w' => e = .returned (.bool (Nums.holds k a b x y)) ∧ w' = w := by
  go_enter Tryd.func21, Tryd.ntmps21
  go_wp2
  all_goals go_ret
  all_goals refine ⟨ret_bool ?_, rfl⟩
  all_goals unfold Nums.holds
  all_goals simp only [beq_iff_eq, beq_eq_false_iff_ne, ne_eq] at *
  all_goals repeat first | rw [if_neg (by omega)] | rw [if_pos (by omega)]
  all_goals first | rfl | (rw [Bool.eq_iff_iff]; simp; done)

theorem value_wrap (n typ : Int) : Nums.value (wrap64 n) typ = Nums.value n typ := by
  unfold Nums.value wrap64
  split
  · omega
  · split <;> omega
theorem tmod_neg_one (x : Int) : x.tmod (-1) = 0 := by rw [Int.tmod_neg, Int.tmod_one]
theorem divide_zero (k a x y typ : Int) : Nums.divide k a 0 x y typ = (0, 2) := rfl
theorem divide_over64 (a b : Int) (h : b ≠ 0) : Nums.divide 3 a b (-9223372036854775808) (-1) 126 = (0, 3) := by unfold Nums.divide; rw [if_neg h, if_pos ⟨rfl, rfl, rfl⟩]
theorem divide_over32 (a b : Int) (h : b ≠ 0) : Nums.divide 3 a b (-2147483648) (-1) 127 = (0, 3) := by unfold Nums.divide; rw [if_neg h, if_pos ⟨rfl, rfl, rfl⟩]
theorem divide_3 (a b x y typ : Int) (h : b ≠ 0) (hn : ¬(x = (if typ = 126 then -9223372036854775808 else -2147483648) ∧ y = -1)) : Nums.divide 3 a b x y typ = (Nums.value (x.tdiv y) typ, 0) := by
  unfold Nums.divide; rw [if_neg h, if_neg (fun h => hn h.2), if_pos rfl]
theorem divide_4 (a b x y typ : Int) (h : b ≠ 0) : Nums.divide 4 a b x y typ = (a / b, 0) := by
  unfold Nums.divide; rw [if_neg h, if_neg (fun h => absurd h.1 (by decide)), if_neg (by decide), if_pos rfl]
theorem divide_5 (a b x y typ : Int) (h : b ≠ 0) : Nums.divide 5 a b x y typ = (Nums.value (x.tmod y) typ, 0) := by
  unfold Nums.divide; rw [if_neg h, if_neg (fun h => absurd h.1 (by decide)), if_neg (by decide), if_neg (by decide), if_pos rfl]
theorem divide_5' (a b x typ : Int) (h : b ≠ 0) (ht : typ = 126 ∨ typ = 127) : Nums.divide 5 a b x (-1) typ = (0, 0) := by
  rw [divide_5 _ _ _ _ _ h, tmod_neg_one]; rcases ht with rfl | rfl <;> rfl
theorem divide_6 (a b x y typ : Int) (h : b ≠ 0) : Nums.divide 6 a b x y typ = (a % b, 0) := by
  unfold Nums.divide; rw [if_neg h, if_neg (fun h => absurd h.1 (by decide)), if_neg (by decide), if_neg (by decide), if_neg (by decide)]

set_option maxHeartbeats 1000000 in
theorem refDivide (k a b x y : Int) (typ : Int) (w : World) (hb0 : b ≠ 0 → y ≠ 0) (ha : 0 ≤ a) (ha1 : a ≤ 18446744073709551615) (hb : 0 ≤ b) (hb1 : b ≤ 18446744073709551615)
    (hx : -9223372036854775808 ≤ x) (hx1 : x ≤ 9223372036854775807) (hy : -9223372036854775808 ≤ y) (hy1 : y ≤ 9223372036854775807) (ht : typ = 126 ∨ typ = 127) (hk : k = 3 ∨ k = 4 ∨ k = 5 ∨ k = 6) :
    Calls Tryd.prog 22 #[.int .i64 k, .int .u64 a, .int .u64 b, .int .i64 x, .int .i64 y, .int .i64 typ] w fun e w' =>
      e = .returned (.tuple #[.int .u64 (Nums.divide k a b x y typ).1, .int .i64 (Nums.divide k a b x y typ).2]) ∧ w' = w := by
  by_cases h0 : b = 0
  · subst h0
    go_enter Tryd.func22, Tryd.ntmps22
    go_wp2
    all_goals go_ret2
    exact ⟨rfl, rfl⟩
  · have hy0 := hb0 h0
    clear hb0
    rcases hk with rfl | rfl | rfl | rfl
    · by_cases hov : x = (if typ = 126 then -9223372036854775808 else -2147483648) ∧ y = -1
      · obtain ⟨rfl, rfl⟩ := hov
        rcases ht with rfl | rfl
        · have e : (if (126 : Int) = 126 then (-9223372036854775808 : Int) else -2147483648) = -9223372036854775808 := rfl
          rw [e, divide_over64 _ _ h0]
          go_enter Tryd.func22, Tryd.ntmps22
          go_wp2
          all_goals go_ret2
          exact ⟨rfl, rfl⟩
        · have e : (if (127 : Int) = 126 then (-9223372036854775808 : Int) else -2147483648) = -2147483648 := rfl
          rw [e, divide_over32 _ _ h0]
          go_enter Tryd.func22, Tryd.ntmps22
          go_wp2
          all_goals go_ret2
          exact ⟨rfl, rfl⟩
      · rw [divide_3 _ _ _ _ _ h0 hov]
        rcases ht with rfl | rfl
        · have hov' : ¬(x = -9223372036854775808 ∧ y = -1) := hov
          by_cases hx2 : x = -9223372036854775808
          · have hy2 : (y == -1) = false := by simp; omega
            have hx3 : (x == -9223372036854775808) = true := by simp [hx2]
            clear hx2 hov hov' hx hx1
            go_enter Tryd.func22, Tryd.ntmps22
            go_wp2_with fail
            refine (refValue _ _ _).mono ?_
            rintro e u ⟨rfl, rfl⟩
            rw [value_wrap]
            go_wp2
            go_ret2
            exact ⟨rfl, rfl⟩
          · have hx3 : (x == -9223372036854775808) = false := by simp [hx2]
            clear hx2 hov hov' hx hx1
            go_enter Tryd.func22, Tryd.ntmps22
            go_wp2_with fail
            refine (refValue _ _ _).mono ?_
            rintro e u ⟨rfl, rfl⟩
            rw [value_wrap]
            go_wp2
            go_ret2
            exact ⟨rfl, rfl⟩
        · have hov' : ¬(x = -2147483648 ∧ y = -1) := hov
          by_cases hx2 : x = -2147483648
          · have hy2 : (y == -1) = false := by simp; omega
            have hx3 : (x == -2147483648) = true := by simp [hx2]
            clear hx2 hov hov' hx hx1
            go_enter Tryd.func22, Tryd.ntmps22
            go_wp2_with fail
            refine (refValue _ _ _).mono ?_
            rintro e u ⟨rfl, rfl⟩
            rw [value_wrap]
            go_wp2
            go_ret2
            exact ⟨rfl, rfl⟩
          · have hx3 : (x == -2147483648) = false := by simp [hx2]
            clear hx2 hov hov' hx hx1
            go_enter Tryd.func22, Tryd.ntmps22
            go_wp2_with fail
            refine (refValue _ _ _).mono ?_
            rintro e u ⟨rfl, rfl⟩
            rw [value_wrap]
            go_wp2
            go_ret2
            exact ⟨rfl, rfl⟩
    · rw [divide_4 _ _ _ _ _ h0]
      rcases ht with rfl | rfl
      all_goals
        go_enter Tryd.func22, Tryd.ntmps22
        go_wp2
        go_ret2
        exact ⟨rfl, rfl⟩
    · by_cases hy2 : y = -1
      · subst hy2
        rw [divide_5' _ _ _ _ h0 ht]
        rcases ht with rfl | rfl
        all_goals
          go_enter Tryd.func22, Tryd.ntmps22
          go_wp2
          go_ret2
          exact ⟨rfl, rfl⟩
      · rw [divide_5 _ _ _ _ _ h0]
        have hy3 : (y == -1) = false := by simp [hy2]
        clear hy2 hx hx1
        rcases ht with rfl | rfl
        all_goals
          go_enter Tryd.func22, Tryd.ntmps22
          go_wp2_with fail
          refine (refValue _ _ _).mono ?_
          rintro e u ⟨rfl, rfl⟩
          try rw [value_wrap]
          go_wp2
          go_ret2
          exact ⟨rfl, rfl⟩
    · rw [divide_6 _ _ _ _ _ h0]
      rcases ht with rfl | rfl
      all_goals
        go_enter Tryd.func22, Tryd.ntmps22
        go_wp2
        go_ret2
        exact ⟨rfl, rfl⟩
end Go.Proofs.YtilgmaabongngaaDoor
