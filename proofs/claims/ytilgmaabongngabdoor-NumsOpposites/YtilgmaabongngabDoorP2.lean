/- What the program's divisions answer, one by one, by width; nothing is changed. -/
import Derived.Test.YtilgmaabongngabDoorP1
namespace Go.Proofs.YtilgmaabongngabDoor
open Go.RowKit
set_option linter.unusedVariables false

/-- an ending that hands over a value whose lower bits, by its type, are x.1, and the trap x.2 -/
def Cuts2 (typ : Int) (x : Int × Int) (e : Ending) : Prop := ∃ v : Int, e = .returned (.tuple #[.int .u64 v, .int .i64 x.2]) ∧ 0 ≤ v ∧ v ≤ 18446744073709551615 ∧ Nums.cut v typ = x.1
theorem wrap_wrap (n : Int) : IntKind.u64.wrap (wrap64 n) = n % 18446744073709551616 := by rw [IntKind.wrap_u64]; unfold wrap64; omega
theorem ar3_over32 (A B : Int) (h0 : 0 ≤ A) (h1 : A < 4294967296) (hA : A = 2147483648) (hB : B ≠ 0) (hy : Nums.sg 32 B = -1) : Nums.ar 3 32 A B = (0, 3) := by
  subst hA
  show (if B = 0 then ((0, 2) : Int × Int) else if Nums.sg 32 2147483648 = - Nums.hf 32 ∧ Nums.sg 32 B = -1 then (0, 3) else _) = _
  rw [if_neg hB, if_pos ⟨by decide, hy⟩]
theorem ar3_over64 (A B : Int) (h0 : 0 ≤ A) (h1 : A < 18446744073709551616) (hA : A = 9223372036854775808) (hB : B ≠ 0) (hy : Nums.sg 64 B = -1) : Nums.ar 3 64 A B = (0, 3) := by
  subst hA
  show (if B = 0 then ((0, 2) : Int × Int) else if Nums.sg 64 9223372036854775808 = - Nums.hf 64 ∧ Nums.sg 64 B = -1 then (0, 3) else _) = _
  rw [if_neg hB, if_pos ⟨by decide, hy⟩]
theorem sg_half32 (A : Int) (h0 : 0 ≤ A) (h1 : A < 4294967296) (h : Nums.sg 32 A = - Nums.hf 32) : A = 2147483648 := by
  unfold Nums.sg at h; rw [Nums.hf32, Nums.md32] at h; split at h <;> omega
theorem sg_half64 (A : Int) (h0 : 0 ≤ A) (h1 : A < 18446744073709551616) (h : Nums.sg 64 A = - Nums.hf 64) : A = 9223372036854775808 := by
  unfold Nums.sg at h; rw [Nums.hf64, Nums.md64] at h; split at h <;> omega
theorem ar3_plain32 (A B : Int) (h0 : 0 ≤ A) (h1 : A < 4294967296) (hB : B ≠ 0) (h : ¬(A = 2147483648 ∧ Nums.sg 32 B = -1)) : Nums.ar 3 32 A B = ((Nums.sg 32 A).tdiv (Nums.sg 32 B) % 4294967296, 0) := by
  show (if B = 0 then ((0, 2) : Int × Int) else if Nums.sg 32 A = - Nums.hf 32 ∧ Nums.sg 32 B = -1 then (0, 3) else ((Nums.sg 32 A).tdiv (Nums.sg 32 B) % Nums.md 32, 0)) = _
  rw [if_neg hB, if_neg (fun hh => h ⟨sg_half32 A h0 h1 hh.1, hh.2⟩), Nums.md32]
theorem ar3_plain64 (A B : Int) (h0 : 0 ≤ A) (h1 : A < 18446744073709551616) (hB : B ≠ 0) (h : ¬(A = 9223372036854775808 ∧ Nums.sg 64 B = -1)) : Nums.ar 3 64 A B = ((Nums.sg 64 A).tdiv (Nums.sg 64 B) % 18446744073709551616, 0) := by
  show (if B = 0 then ((0, 2) : Int × Int) else if Nums.sg 64 A = - Nums.hf 64 ∧ Nums.sg 64 B = -1 then (0, 3) else ((Nums.sg 64 A).tdiv (Nums.sg 64 B) % Nums.md 64, 0)) = _
  rw [if_neg hB, if_neg (fun hh => h ⟨sg_half64 A h0 h1 hh.1, hh.2⟩), Nums.md64]
theorem ar4_plain (W : Nat) (A B : Int) (hB : B ≠ 0) : Nums.ar 4 W A B = (A / B, 0) := if_neg hB
theorem ar5_plain (W : Nat) (A B : Int) (hB : B ≠ 0) : Nums.ar 5 W A B = ((Nums.sg W A).tmod (Nums.sg W B) % Nums.md W, 0) := if_neg hB
theorem ar6_plain (W : Nat) (A B : Int) (hB : B ≠ 0) : Nums.ar 6 W A B = (A % B, 0) := if_neg hB
theorem mod_mod32 (n : Int) : n % 18446744073709551616 % 4294967296 = n % 4294967296 := by omega
theorem sgs32 (A : Int) (h0 : 0 ≤ A) (h1 : A < 4294967296) : Nums.signed A 127 = Nums.sg 32 A := by
  unfold Nums.signed; rw [if_pos rfl, Int.emod_eq_of_lt h0 h1]
theorem sgs64 (A : Int) : Nums.signed A 126 = Nums.sg 64 A := rfl
theorem sgn32 (B : Int) (h0 : 0 ≤ B) (h1 : B < 4294967296) (h : B ≠ 0) : Nums.sg 32 B ≠ 0 ∧ -9223372036854775808 ≤ Nums.sg 32 B ∧ Nums.sg 32 B ≤ 9223372036854775807 := by
  unfold Nums.sg; rw [Nums.hf32, Nums.md32]; split <;> omega
theorem sgn64 (B : Int) (h0 : 0 ≤ B) (h1 : B < 18446744073709551616) (h : B ≠ 0) : Nums.sg 64 B ≠ 0 ∧ -9223372036854775808 ≤ Nums.sg 64 B ∧ Nums.sg 64 B ≤ 9223372036854775807 := by
  unfold Nums.sg; rw [Nums.hf64, Nums.md64]; split <;> omega
theorem sgb32 (B : Int) (h0 : 0 ≤ B) (h1 : B < 4294967296) : -9223372036854775808 ≤ Nums.sg 32 B ∧ Nums.sg 32 B ≤ 9223372036854775807 := by
  unfold Nums.sg; rw [Nums.hf32, Nums.md32]; split <;> omega
theorem sgb64 (B : Int) (h0 : 0 ≤ B) (h1 : B < 18446744073709551616) : -9223372036854775808 ≤ Nums.sg 64 B ∧ Nums.sg 64 B ≤ 9223372036854775807 := by
  unfold Nums.sg; rw [Nums.hf64, Nums.md64]; split <;> omega
theorem mod_in {n : Int} : 0 ≤ n % 18446744073709551616 ∧ n % 18446744073709551616 ≤ 18446744073709551615 := by omega
theorem cut2_32 (e : Ending) (A B n : Int) (k : Nat) (h : Nums.ar k 32 A B = (n % 4294967296, 0)) (he : e = .returned (.tuple #[.int .u64 (n % 18446744073709551616), .int .i64 0])) : Cuts2 127 (Nums.ar k 32 A B) e := by
  rw [h, he]; exact ⟨_, rfl, mod_in.1, mod_in.2, mod_mod32 n⟩
theorem cut2_64 (e : Ending) (A B n : Int) (k : Nat) (h : Nums.ar k 64 A B = (n % 18446744073709551616, 0)) (he : e = .returned (.tuple #[.int .u64 (n % 18446744073709551616), .int .i64 0])) : Cuts2 126 (Nums.ar k 64 A B) e := by
  rw [h, he]; exact ⟨_, rfl, mod_in.1, mod_in.2, rfl⟩
theorem cut2_32w (A B n : Int) (k : Nat) (h : Nums.ar k 32 A B = (n % 4294967296, 0)) : Cuts2 127 (Nums.ar k 32 A B) (.returned (.tuple #[.int .u64 (IntKind.u64.wrap n), .int .i64 0])) :=
  cut2_32 _ A B n k h (by rw [IntKind.wrap_u64])
theorem cut2_64w (A B n : Int) (k : Nat) (h : Nums.ar k 64 A B = (n % 18446744073709551616, 0)) : Cuts2 126 (Nums.ar k 64 A B) (.returned (.tuple #[.int .u64 (IntKind.u64.wrap n), .int .i64 0])) :=
  cut2_64 _ A B n k h (by rw [IntKind.wrap_u64])
theorem cut2_32v (A B n : Int) (k : Nat) (h : Nums.ar k 32 A B = (n % 4294967296, 0)) : Cuts2 127 (Nums.ar k 32 A B) (.returned (.tuple #[.int .u64 (IntKind.u64.wrap (wrap64 n)), .int .i64 0])) :=
  cut2_32 _ A B n k h (by rw [wrap_wrap])
theorem cut2_64v (A B n : Int) (k : Nat) (h : Nums.ar k 64 A B = (n % 18446744073709551616, 0)) : Cuts2 126 (Nums.ar k 64 A B) (.returned (.tuple #[.int .u64 (IntKind.u64.wrap (wrap64 n)), .int .i64 0])) :=
  cut2_64 _ A B n k h (by rw [wrap_wrap])
theorem cut2_u32 (e : Ending) (A B n : Int) (k : Nat) (h : Nums.ar k 32 A B = (n, 0)) (h0 : 0 ≤ n) (h1 : n < 4294967296) (he : e = .returned (.tuple #[.int .u64 n, .int .i64 0])) : Cuts2 127 (Nums.ar k 32 A B) e := by
  rw [h, he]; refine ⟨_, rfl, h0, by omega, ?_⟩; rw [cut32]; exact Int.emod_eq_of_lt h0 h1
theorem cut2_u64 (e : Ending) (A B n : Int) (k : Nat) (h : Nums.ar k 64 A B = (n, 0)) (h0 : 0 ≤ n) (h1 : n < 18446744073709551616) (he : e = .returned (.tuple #[.int .u64 n, .int .i64 0])) : Cuts2 126 (Nums.ar k 64 A B) e := by
  rw [h, he]; exact ⟨_, rfl, h0, by omega, rfl⟩
theorem div_in (A B M : Int) (h0 : 0 ≤ A) (h1 : A < M) (hb : 0 ≤ B) : 0 ≤ A / B ∧ A / B < M :=
  ⟨Int.ediv_nonneg h0 hb, Int.lt_of_le_of_lt (Int.ediv_le_self _ h0) h1⟩
theorem mod_in' (A B M : Int) (h0 : 0 ≤ A) (h1 : B < M) (hb : 0 ≤ B) (hB : B ≠ 0) : 0 ≤ A % B ∧ A % B < M :=
  ⟨Int.emod_nonneg _ hB, Int.lt_trans (Int.emod_lt_of_pos _ (by omega)) h1⟩

set_option maxHeartbeats 1000000 in
theorem pdivide109_32 (A B : Int) (w : World) (h0 : 0 ≤ A) (h1 : A < 4294967296) (k0 : 0 ≤ B) (k1 : B < 4294967296) :
    Calls Tryd.prog 16 #[.int .i64 109, .int .u64 A, .int .u64 B, .int .i64 127] w fun e w' => Cuts2 127 (Nums.ar 3 32 A B) e ∧ w' = w := by
  by_cases hB : B = 0
  · subst hB
    rw [ar_zero 3 32 A (by decide)]
    go_enter Tryd.func16, Tryd.ntmps16
    go_wp2
    all_goals go_ret2
    exact ⟨⟨_, rfl, by decide, by decide, rfl⟩, rfl⟩
  have es := sgs32 A h0 h1
  have et := sgs32 B k0 k1
  have hn := sgn32 B k0 k1 hB
  have hm := sgb32 A h0 h1
  by_cases hov : A = 2147483648 ∧ Nums.sg 32 B = -1
  · rw [ar3_over32 A B h0 h1 hov.1 hB hov.2]
    generalize Nums.sg 32 A = x at *
    generalize Nums.sg 32 B = y at *
    obtain ⟨rfl, rfl⟩ := hov
    go_enter Tryd.func16, Tryd.ntmps16
    go_wp2_with fail
    refine (pSigned _ _ _ (by omega) (by omega)).mono ?_
    rintro e u ⟨rfl, rfl⟩
    rw [es]
    go_wp2_with fail
    refine (pSigned _ _ _ (by omega) (by omega)).mono ?_
    rintro e u ⟨rfl, rfl⟩
    rw [et]
    go_wp2_with fail
    refine (pWidth _ _).mono ?_
    rintro e u ⟨rfl, rfl⟩
    rw [show Nums.wid 127 = 32 from rfl]
    go_wp2
    all_goals go_ret2
    exact ⟨⟨_, rfl, by decide, by decide, rfl⟩, rfl⟩
  · have ha := ar3_plain32 A B h0 h1 hB hov
    generalize Nums.sg 32 A = x at *
    generalize Nums.sg 32 B = y at *
    by_cases hA : A = 2147483648
    · have hy : (y == -1) = false := by simp; exact fun h => hov ⟨hA, h⟩
      have hA' : (A == 2147483648) = true := by simp [hA]
      clear hov
      have HA := hide hA
      have HH := hide ha
      clear hA ha
      go_enter Tryd.func16, Tryd.ntmps16
      go_wp2_with fail
      refine (pSigned _ _ _ (by omega) (by omega)).mono ?_
      rintro e u ⟨rfl, rfl⟩
      rw [es]
      go_wp2_with fail
      refine (pSigned _ _ _ (by omega) (by omega)).mono ?_
      rintro e u ⟨rfl, rfl⟩
      rw [et]
      go_wp2_with fail
      refine (pWidth _ _).mono ?_
      rintro e u ⟨rfl, rfl⟩
      rw [show Nums.wid 127 = 32 from rfl]
      go_wp2
      all_goals go_ret2
      exact ⟨cut2_32v A B _ 3 HH, rfl⟩
    · have hA' : (A == 2147483648) = false := by simp [hA]
      clear hov
      have HA := hide hA
      have HH := hide ha
      clear hA ha
      go_enter Tryd.func16, Tryd.ntmps16
      go_wp2_with fail
      refine (pSigned _ _ _ (by omega) (by omega)).mono ?_
      rintro e u ⟨rfl, rfl⟩
      rw [es]
      go_wp2_with fail
      refine (pSigned _ _ _ (by omega) (by omega)).mono ?_
      rintro e u ⟨rfl, rfl⟩
      rw [et]
      go_wp2_with fail
      refine (pWidth _ _).mono ?_
      rintro e u ⟨rfl, rfl⟩
      rw [show Nums.wid 127 = 32 from rfl]
      go_wp2
      all_goals go_ret2
      exact ⟨cut2_32v A B _ 3 HH, rfl⟩

set_option maxHeartbeats 1000000 in
theorem pdivide110_32 (A B : Int) (w : World) (h0 : 0 ≤ A) (h1 : A < 4294967296) (k0 : 0 ≤ B) (k1 : B < 4294967296) :
    Calls Tryd.prog 16 #[.int .i64 110, .int .u64 A, .int .u64 B, .int .i64 127] w fun e w' => Cuts2 127 (Nums.ar 4 32 A B) e ∧ w' = w := by
  by_cases hB : B = 0
  · subst hB
    rw [ar_zero 4 32 A (by decide)]
    go_enter Tryd.func16, Tryd.ntmps16
    go_wp2
    all_goals go_ret2
    exact ⟨⟨_, rfl, by decide, by decide, rfl⟩, rfl⟩
  have es := sgs32 A h0 h1
  have et := sgs32 B k0 k1
  have hn := sgn32 B k0 k1 hB
  have hm := sgb32 A h0 h1
  have ha := ar4_plain 32 A B hB
  have hd := div_in A B 4294967296 h0 h1 k0
  generalize Nums.sg 32 A = x at *
  generalize Nums.sg 32 B = y at *
  · go_enter Tryd.func16, Tryd.ntmps16
    go_wp2_with fail
    refine (pSigned _ _ _ (by omega) (by omega)).mono ?_
    rintro e u ⟨rfl, rfl⟩
    rw [es]
    go_wp2_with fail
    refine (pSigned _ _ _ (by omega) (by omega)).mono ?_
    rintro e u ⟨rfl, rfl⟩
    rw [et]
    go_wp2
    all_goals go_ret2
    exact ⟨cut2_u32 _ A B _ 4 ha hd.1 hd.2 rfl, rfl⟩

set_option maxHeartbeats 1000000 in
theorem pdivide111_32 (A B : Int) (w : World) (h0 : 0 ≤ A) (h1 : A < 4294967296) (k0 : 0 ≤ B) (k1 : B < 4294967296) :
    Calls Tryd.prog 16 #[.int .i64 111, .int .u64 A, .int .u64 B, .int .i64 127] w fun e w' => Cuts2 127 (Nums.ar 5 32 A B) e ∧ w' = w := by
  by_cases hB : B = 0
  · subst hB
    rw [ar_zero 5 32 A (by decide)]
    go_enter Tryd.func16, Tryd.ntmps16
    go_wp2
    all_goals go_ret2
    exact ⟨⟨_, rfl, by decide, by decide, rfl⟩, rfl⟩
  have es := sgs32 A h0 h1
  have et := sgs32 B k0 k1
  have hn := sgn32 B k0 k1 hB
  have hm := sgb32 A h0 h1
  have ha := ar5_plain 32 A B hB
  rw [Nums.md32] at ha
  generalize Nums.sg 32 A = x at *
  generalize Nums.sg 32 B = y at *
  · go_enter Tryd.func16, Tryd.ntmps16
    go_wp2_with fail
    refine (pSigned _ _ _ (by omega) (by omega)).mono ?_
    rintro e u ⟨rfl, rfl⟩
    rw [es]
    go_wp2_with fail
    refine (pSigned _ _ _ (by omega) (by omega)).mono ?_
    rintro e u ⟨rfl, rfl⟩
    rw [et]
    go_wp2
    all_goals go_ret2
    exact ⟨cut2_32w A B _ 5 ha, rfl⟩

set_option maxHeartbeats 1000000 in
theorem pdivide112_32 (A B : Int) (w : World) (h0 : 0 ≤ A) (h1 : A < 4294967296) (k0 : 0 ≤ B) (k1 : B < 4294967296) :
    Calls Tryd.prog 16 #[.int .i64 112, .int .u64 A, .int .u64 B, .int .i64 127] w fun e w' => Cuts2 127 (Nums.ar 6 32 A B) e ∧ w' = w := by
  by_cases hB : B = 0
  · subst hB
    rw [ar_zero 6 32 A (by decide)]
    go_enter Tryd.func16, Tryd.ntmps16
    go_wp2
    all_goals go_ret2
    exact ⟨⟨_, rfl, by decide, by decide, rfl⟩, rfl⟩
  have es := sgs32 A h0 h1
  have et := sgs32 B k0 k1
  have hn := sgn32 B k0 k1 hB
  have hm := sgb32 A h0 h1
  have ha := ar6_plain 32 A B hB
  have hd := mod_in' A B 4294967296 h0 k1 k0 hB
  generalize Nums.sg 32 A = x at *
  generalize Nums.sg 32 B = y at *
  · go_enter Tryd.func16, Tryd.ntmps16
    go_wp2_with fail
    refine (pSigned _ _ _ (by omega) (by omega)).mono ?_
    rintro e u ⟨rfl, rfl⟩
    rw [es]
    go_wp2_with fail
    refine (pSigned _ _ _ (by omega) (by omega)).mono ?_
    rintro e u ⟨rfl, rfl⟩
    rw [et]
    go_wp2
    all_goals go_ret2
    exact ⟨cut2_u32 _ A B _ 6 ha hd.1 hd.2 rfl, rfl⟩

set_option maxHeartbeats 1000000 in
theorem pdivide109_64 (A B : Int) (w : World) (h0 : 0 ≤ A) (h1 : A < 18446744073709551616) (k0 : 0 ≤ B) (k1 : B < 18446744073709551616) :
    Calls Tryd.prog 16 #[.int .i64 109, .int .u64 A, .int .u64 B, .int .i64 126] w fun e w' => Cuts2 126 (Nums.ar 3 64 A B) e ∧ w' = w := by
  by_cases hB : B = 0
  · subst hB
    rw [ar_zero 3 64 A (by decide)]
    go_enter Tryd.func16, Tryd.ntmps16
    go_wp2
    all_goals go_ret2
    exact ⟨⟨_, rfl, by decide, by decide, rfl⟩, rfl⟩
  have es := sgs64 A
  have et := sgs64 B
  have hn := sgn64 B k0 k1 hB
  have hm := sgb64 A h0 h1
  by_cases hov : A = 9223372036854775808 ∧ Nums.sg 64 B = -1
  · rw [ar3_over64 A B h0 h1 hov.1 hB hov.2]
    generalize Nums.sg 64 A = x at *
    generalize Nums.sg 64 B = y at *
    obtain ⟨rfl, rfl⟩ := hov
    go_enter Tryd.func16, Tryd.ntmps16
    go_wp2_with fail
    refine (pSigned _ _ _ (by omega) (by omega)).mono ?_
    rintro e u ⟨rfl, rfl⟩
    rw [es]
    go_wp2_with fail
    refine (pSigned _ _ _ (by omega) (by omega)).mono ?_
    rintro e u ⟨rfl, rfl⟩
    rw [et]
    go_wp2_with fail
    refine (pWidth _ _).mono ?_
    rintro e u ⟨rfl, rfl⟩
    rw [show Nums.wid 126 = 64 from rfl]
    go_wp2
    all_goals go_ret2
    exact ⟨⟨_, rfl, by decide, by decide, rfl⟩, rfl⟩
  · have ha := ar3_plain64 A B h0 h1 hB hov
    generalize Nums.sg 64 A = x at *
    generalize Nums.sg 64 B = y at *
    by_cases hA : A = 9223372036854775808
    · have hy : (y == -1) = false := by simp; exact fun h => hov ⟨hA, h⟩
      have hA' : (A == 9223372036854775808) = true := by simp [hA]
      clear hov
      have HA := hide hA
      have HH := hide ha
      clear hA ha
      go_enter Tryd.func16, Tryd.ntmps16
      go_wp2_with fail
      refine (pSigned _ _ _ (by omega) (by omega)).mono ?_
      rintro e u ⟨rfl, rfl⟩
      rw [es]
      go_wp2_with fail
      refine (pSigned _ _ _ (by omega) (by omega)).mono ?_
      rintro e u ⟨rfl, rfl⟩
      rw [et]
      go_wp2_with fail
      refine (pWidth _ _).mono ?_
      rintro e u ⟨rfl, rfl⟩
      rw [show Nums.wid 126 = 64 from rfl]
      go_wp2
      all_goals go_ret2
      exact ⟨cut2_64v A B _ 3 HH, rfl⟩
    · have hA' : (A == 9223372036854775808) = false := by simp [hA]
      clear hov
      have HA := hide hA
      have HH := hide ha
      clear hA ha
      go_enter Tryd.func16, Tryd.ntmps16
      go_wp2_with fail
      refine (pSigned _ _ _ (by omega) (by omega)).mono ?_
      rintro e u ⟨rfl, rfl⟩
      rw [es]
      go_wp2_with fail
      refine (pSigned _ _ _ (by omega) (by omega)).mono ?_
      rintro e u ⟨rfl, rfl⟩
      rw [et]
      go_wp2_with fail
      refine (pWidth _ _).mono ?_
      rintro e u ⟨rfl, rfl⟩
      rw [show Nums.wid 126 = 64 from rfl]
      go_wp2
      all_goals go_ret2
      exact ⟨cut2_64v A B _ 3 HH, rfl⟩

set_option maxHeartbeats 1000000 in
theorem pdivide110_64 (A B : Int) (w : World) (h0 : 0 ≤ A) (h1 : A < 18446744073709551616) (k0 : 0 ≤ B) (k1 : B < 18446744073709551616) :
    Calls Tryd.prog 16 #[.int .i64 110, .int .u64 A, .int .u64 B, .int .i64 126] w fun e w' => Cuts2 126 (Nums.ar 4 64 A B) e ∧ w' = w := by
  by_cases hB : B = 0
  · subst hB
    rw [ar_zero 4 64 A (by decide)]
    go_enter Tryd.func16, Tryd.ntmps16
    go_wp2
    all_goals go_ret2
    exact ⟨⟨_, rfl, by decide, by decide, rfl⟩, rfl⟩
  have es := sgs64 A
  have et := sgs64 B
  have hn := sgn64 B k0 k1 hB
  have hm := sgb64 A h0 h1
  have ha := ar4_plain 64 A B hB
  have hd := div_in A B 18446744073709551616 h0 h1 k0
  generalize Nums.sg 64 A = x at *
  generalize Nums.sg 64 B = y at *
  · go_enter Tryd.func16, Tryd.ntmps16
    go_wp2_with fail
    refine (pSigned _ _ _ (by omega) (by omega)).mono ?_
    rintro e u ⟨rfl, rfl⟩
    rw [es]
    go_wp2_with fail
    refine (pSigned _ _ _ (by omega) (by omega)).mono ?_
    rintro e u ⟨rfl, rfl⟩
    rw [et]
    go_wp2
    all_goals go_ret2
    exact ⟨cut2_u64 _ A B _ 4 ha hd.1 hd.2 rfl, rfl⟩

set_option maxHeartbeats 1000000 in
theorem pdivide111_64 (A B : Int) (w : World) (h0 : 0 ≤ A) (h1 : A < 18446744073709551616) (k0 : 0 ≤ B) (k1 : B < 18446744073709551616) :
    Calls Tryd.prog 16 #[.int .i64 111, .int .u64 A, .int .u64 B, .int .i64 126] w fun e w' => Cuts2 126 (Nums.ar 5 64 A B) e ∧ w' = w := by
  by_cases hB : B = 0
  · subst hB
    rw [ar_zero 5 64 A (by decide)]
    go_enter Tryd.func16, Tryd.ntmps16
    go_wp2
    all_goals go_ret2
    exact ⟨⟨_, rfl, by decide, by decide, rfl⟩, rfl⟩
  have es := sgs64 A
  have et := sgs64 B
  have hn := sgn64 B k0 k1 hB
  have hm := sgb64 A h0 h1
  have ha := ar5_plain 64 A B hB
  rw [Nums.md64] at ha
  generalize Nums.sg 64 A = x at *
  generalize Nums.sg 64 B = y at *
  · go_enter Tryd.func16, Tryd.ntmps16
    go_wp2_with fail
    refine (pSigned _ _ _ (by omega) (by omega)).mono ?_
    rintro e u ⟨rfl, rfl⟩
    rw [es]
    go_wp2_with fail
    refine (pSigned _ _ _ (by omega) (by omega)).mono ?_
    rintro e u ⟨rfl, rfl⟩
    rw [et]
    go_wp2
    all_goals go_ret2
    exact ⟨cut2_64w A B _ 5 ha, rfl⟩

set_option maxHeartbeats 1000000 in
theorem pdivide112_64 (A B : Int) (w : World) (h0 : 0 ≤ A) (h1 : A < 18446744073709551616) (k0 : 0 ≤ B) (k1 : B < 18446744073709551616) :
    Calls Tryd.prog 16 #[.int .i64 112, .int .u64 A, .int .u64 B, .int .i64 126] w fun e w' => Cuts2 126 (Nums.ar 6 64 A B) e ∧ w' = w := by
  by_cases hB : B = 0
  · subst hB
    rw [ar_zero 6 64 A (by decide)]
    go_enter Tryd.func16, Tryd.ntmps16
    go_wp2
    all_goals go_ret2
    exact ⟨⟨_, rfl, by decide, by decide, rfl⟩, rfl⟩
  have es := sgs64 A
  have et := sgs64 B
  have hn := sgn64 B k0 k1 hB
  have hm := sgb64 A h0 h1
  have ha := ar6_plain 64 A B hB
  have hd := mod_in' A B 18446744073709551616 h0 k1 k0 hB
  generalize Nums.sg 64 A = x at *
  generalize Nums.sg 64 B = y at *
  · go_enter Tryd.func16, Tryd.ntmps16
    go_wp2_with fail
    refine (pSigned _ _ _ (by omega) (by omega)).mono ?_
    rintro e u ⟨rfl, rfl⟩
    rw [es]
    go_wp2_with fail
    refine (pSigned _ _ _ (by omega) (by omega)).mono ?_
    rintro e u ⟨rfl, rfl⟩
    rw [et]
    go_wp2
    all_goals go_ret2
    exact ⟨cut2_u64 _ A B _ 6 ha hd.1 hd.2 rfl, rfl⟩

end Go.Proofs.YtilgmaabongngabDoor
