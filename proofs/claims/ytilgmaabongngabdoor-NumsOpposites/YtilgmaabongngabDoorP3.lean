/- What the program counts of bits, one by one, by width; nothing is changed. -/
import Derived.Test.YtilgmaabongngabDoorP0
import Derived.Test.YtilgmaabongngabDoorTz
namespace Go.Proofs.YtilgmaabongngabDoor
open Go.RowKit
set_option linter.unusedVariables false

theorem len_le32 {a : Int} {L : Nat} (h : Nums.IsLen a L) (h1 : a < 4294967296) : L ≤ 32 := by
  rcases h.2.2 with h2 | h2
  · omega
  · have e : (2 : Int) ^ 32 = 4294967296 := by decide
    have h3 : (2 : Int) ^ (L - 1) < 2 ^ 32 := by rw [e]; omega
    have h4 : (2 : Nat) ^ (L - 1) < 2 ^ 32 := by exact_mod_cast h3
    have := (Nat.pow_lt_pow_iff_right (by decide)).1 h4
    omega
theorem len_le64 {a : Int} {L : Nat} (h : Nums.IsLen a L) (h1 : a < 18446744073709551616) : L ≤ 64 := by
  rcases h.2.2 with h2 | h2
  · omega
  · have e : (2 : Int) ^ 64 = 18446744073709551616 := by decide
    have h3 : (2 : Int) ^ (L - 1) < 2 ^ 64 := by rw [e]; omega
    have h4 : (2 : Nat) ^ (L - 1) < 2 ^ 64 := by exact_mod_cast h3
    have := (Nat.pow_lt_pow_iff_right (by decide)).1 h4
    omega
theorem min_tz32 (a : Nat) (h : a < 4294967296) : min 32 (Nums.ctz 64 (a : Int)) = Nums.ctz 32 (a : Int) := by
  by_cases hz : a = 0
  · subst hz; show min 32 (Nums.ctz 64 0) = Nums.ctz 32 0; rw [Nums.ctz_zero, Nums.ctz_zero]; rfl
  · rw [Nums.ctz_32 a (by omega) h]; have := Nums.ctz_le 32 (a : Int); omega
theorem min_tz64 (a : Nat) : min 64 (Nums.ctz 64 (a : Int)) = Nums.ctz 64 (a : Int) := by have := Nums.ctz_le 64 (a : Int); omega
theorem min_nat (W t r : Nat) (h : min W t = r) (x : Int) (hx : x = min (W : Int) (t : Int)) : x = (r : Int) := by rw [hx, ← h]; omega

set_option maxHeartbeats 1000000 in
theorem pcount103_32 (A : Nat) (w : World) (h1 : A < 4294967296) :
    Calls Tryd.prog 14 #[.int .i64 103, .int .u64 A, .int .i64 127] w fun e w' => e = .returned (.int .u64 (Nums.clz A 32 : Nat)) ∧ w' = w := by
  generalize hc : Nums.clz A 32 = c
  have Hc := hide hc
  clear hc
  go_enter Tryd.func14, Tryd.ntmps14
  go_wp2_with fail
  refine (pWidth _ _).mono ?_
  rintro e u ⟨rfl, rfl⟩
  rw [show Nums.wid 127 = 32 from rfl]
  go_wp2_with fail
  refine (bitsLen _ _ (by omega) (by omega)).mono ?_
  rintro e u ⟨⟨L, hL, rfl⟩, rfl⟩
  have hL' := len_le32 hL (by omega)
  have hcl := Nums.clz_len 32 _ L hL hL'
  rw [Hc] at hcl
  have HL := hide hL
  clear hL
  go_wp2
  go_ret
  refine ⟨ret_int ?_, rfl⟩
  all_goals first | omega | (simp only [IntKind.wrap_u64]; omega)

set_option maxHeartbeats 1000000 in
theorem pcount104_32 (A : Nat) (w : World) (h1 : A < 4294967296) (hI : TabI w) :
    Calls Tryd.prog 14 #[.int .i64 104, .int .u64 A, .int .i64 127] w fun e w' => e = .returned (.int .u64 (Nums.ctz 32 A : Nat)) ∧ w' = w := by
  have hm := min_tz32 A h1
  have hb := Nums.ctz_le 64 (A : Int)
  have hz : ∀ w : World, TabI w → Calls Tryd.prog 21 #[.int .u64 A] w fun e w' => e = .returned (.int .i64 (Nums.ctz 64 A : Nat)) ∧ w' = w := fun w h => bitsTz A w (by omega) h
  generalize Nums.ctz 32 (A : Int) = r at *
  generalize Nums.ctz 64 (A : Int) = t at *
  have Hm := hide hm
  clear hm
  go_enter Tryd.func14, Tryd.ntmps14
  go_wp2_with fail
  refine (pWidth _ _).mono ?_
  rintro e u ⟨rfl, rfl⟩
  rw [show Nums.wid 127 = 32 from rfl]
  go_wp2_with fail
  refine (hz _ hI).mono ?_
  rintro e u ⟨rfl, rfl⟩
  go_wp2
  all_goals go_ret
  all_goals refine ⟨ret_int ?_, rfl⟩
  all_goals have hm := unhide Hm
  all_goals omega

set_option maxHeartbeats 1000000 in
theorem pcount105_32 (A : Nat) (w : World) (h1 : A < 4294967296) :
    Calls Tryd.prog 14 #[.int .i64 105, .int .u64 A, .int .i64 127] w fun e w' => e = .returned (.int .u64 (Nums.pop 32 A : Nat)) ∧ w' = w := by
  have hb := Nums.pop_le 64 (A : Int)
  have hz : ∀ w : World, Calls Tryd.prog 22 #[.int .u64 A] w fun e w' => e = .returned (.int .i64 (Nums.pop 64 A : Nat)) ∧ w' = w := fun w => bitsOnes A w (by omega)
  rw [← Nums.pop_32 A h1]
  generalize Nums.pop 64 (A : Int) = t at *
  go_enter Tryd.func14, Tryd.ntmps14
  go_wp2_with fail
  refine (pWidth _ _).mono ?_
  rintro e u ⟨rfl, rfl⟩
  rw [show Nums.wid 127 = 32 from rfl]
  go_wp2_with fail
  refine (hz _).mono ?_
  rintro e u ⟨rfl, rfl⟩
  go_wp2
  all_goals go_ret
  all_goals refine ⟨ret_int ?_, rfl⟩
  all_goals first | rfl | (simp only [IntKind.wrap_u64]; omega) | omega

set_option maxHeartbeats 1000000 in
theorem pcount103_64 (A : Nat) (w : World) (h1 : A < 18446744073709551616) :
    Calls Tryd.prog 14 #[.int .i64 103, .int .u64 A, .int .i64 126] w fun e w' => e = .returned (.int .u64 (Nums.clz A 64 : Nat)) ∧ w' = w := by
  generalize hc : Nums.clz A 64 = c
  have Hc := hide hc
  clear hc
  go_enter Tryd.func14, Tryd.ntmps14
  go_wp2_with fail
  refine (pWidth _ _).mono ?_
  rintro e u ⟨rfl, rfl⟩
  rw [show Nums.wid 126 = 64 from rfl]
  go_wp2_with fail
  refine (bitsLen _ _ (by omega) (by omega)).mono ?_
  rintro e u ⟨⟨L, hL, rfl⟩, rfl⟩
  have hL' := len_le64 hL (by omega)
  have hcl := Nums.clz_len 64 _ L hL hL'
  rw [Hc] at hcl
  have HL := hide hL
  clear hL
  go_wp2
  go_ret
  refine ⟨ret_int ?_, rfl⟩
  all_goals first | omega | (simp only [IntKind.wrap_u64]; omega)

set_option maxHeartbeats 1000000 in
theorem pcount104_64 (A : Nat) (w : World) (h1 : A < 18446744073709551616) (hI : TabI w) :
    Calls Tryd.prog 14 #[.int .i64 104, .int .u64 A, .int .i64 126] w fun e w' => e = .returned (.int .u64 (Nums.ctz 64 A : Nat)) ∧ w' = w := by
  have hm := min_tz64 A
  have hb := Nums.ctz_le 64 (A : Int)
  have hz : ∀ w : World, TabI w → Calls Tryd.prog 21 #[.int .u64 A] w fun e w' => e = .returned (.int .i64 (Nums.ctz 64 A : Nat)) ∧ w' = w := fun w h => bitsTz A w (by omega) h

  generalize Nums.ctz 64 (A : Int) = t at *
  have Hm := hide hm
  clear hm
  go_enter Tryd.func14, Tryd.ntmps14
  go_wp2_with fail
  refine (pWidth _ _).mono ?_
  rintro e u ⟨rfl, rfl⟩
  rw [show Nums.wid 126 = 64 from rfl]
  go_wp2_with fail
  refine (hz _ hI).mono ?_
  rintro e u ⟨rfl, rfl⟩
  go_wp2
  all_goals go_ret
  all_goals refine ⟨ret_int ?_, rfl⟩
  all_goals have hm := unhide Hm
  all_goals omega

set_option maxHeartbeats 1000000 in
theorem pcount105_64 (A : Nat) (w : World) (h1 : A < 18446744073709551616) :
    Calls Tryd.prog 14 #[.int .i64 105, .int .u64 A, .int .i64 126] w fun e w' => e = .returned (.int .u64 (Nums.pop 64 A : Nat)) ∧ w' = w := by
  have hb := Nums.pop_le 64 (A : Int)
  have hz : ∀ w : World, Calls Tryd.prog 22 #[.int .u64 A] w fun e w' => e = .returned (.int .i64 (Nums.pop 64 A : Nat)) ∧ w' = w := fun w => bitsOnes A w (by omega)

  generalize Nums.pop 64 (A : Int) = t at *
  go_enter Tryd.func14, Tryd.ntmps14
  go_wp2_with fail
  refine (pWidth _ _).mono ?_
  rintro e u ⟨rfl, rfl⟩
  rw [show Nums.wid 126 = 64 from rfl]
  go_wp2_with fail
  refine (hz _).mono ?_
  rintro e u ⟨rfl, rfl⟩
  go_wp2
  all_goals go_ret
  all_goals refine ⟨ret_int ?_, rfl⟩
  all_goals first | rfl | (simp only [IntKind.wrap_u64]; omega) | omega

end Go.Proofs.YtilgmaabongngabDoor
