/- The law on comparisons and their opposites, and on counts of bits, walked over what the program's exported functions answer: it returns true. -/
import Derived.Test.YtilgmaabongngabDoorCon
import Derived.Test.YtilgmaabongngabDoorOpp
namespace Go.Proofs.YtilgmaabongngabDoor
open Go.RowKit
set_option linter.unusedVariables false

def pairsL : List Int := [0, 1, 2, 8, 3, 9, 4, 6, 5, 7]
theorem new_cells (w : World) (vs : Array Value) (t : TypeId) : ∀ (j : Nat) (u : Value), vs[j]? = some u → (w.alloc (.cells vs t)).cell? ⟨w.heap.size, j, none⟩ = some u := by
  intro j u h
  simp [h]
theorem pairs_new (w : World) (t : TypeId) : ∀ (j : Nat) (z : Int), pairsL[j]? = some z →
    (w.alloc (.cells #[.int .i64 0, .int .i64 1, .int .i64 2, .int .i64 8, .int .i64 3, .int .i64 9, .int .i64 4, .int .i64 6, .int .i64 5, .int .i64 7] t)).cell? ⟨w.heap.size, j, none⟩ = some (.int .i64 z) := by
  intro j z h
  refine new_cells w _ t j _ ?_
  have hj : j < 10 := by
    have := List.getElem?_eq_some_iff.1 h
    exact this.1
  rcases (by omega : j = 0 ∨ j = 1 ∨ j = 2 ∨ j = 3 ∨ j = 4 ∨ j = 5 ∨ j = 6 ∨ j = 7 ∨ j = 8 ∨ j = 9) with rfl | rfl | rfl | rfl | rfl | rfl | rfl | rfl | rfl | rfl
  all_goals (cases h; rfl)
/-- what the loop keeps: the pairs lie where they were laid, whatever was made since -/
structure Pairs (w wr : World) : Prop where
  cell : ∀ (j : Nat) (z : Int), pairsL[j]? = some z → wr.cell? ⟨w.heap.size, j, none⟩ = some (.int .i64 z)
  size : w.heap.size < wr.heap.size
  bel : Below w.heap.size w wr
theorem Pairs.on {w wr w2 : World} (h : Pairs w wr) (hb : Below wr.heap.size wr w2) : Pairs w w2 :=
  ⟨fun j z hj => by rw [hb.cell (show w.heap.size < wr.heap.size from h.size)]; exact h.cell j z hj, Nat.lt_of_lt_of_le h.size hb.size, bel_on h.bel hb⟩

theorem pair32 (a b : Int) (k : Nat) (hk : k < 5) : ∃ p q x y : Int, pairsL[k * 2]? = some p ∧ pairsL[k * 2 + 1]? = some q ∧ 0 ≤ p ∧ p ≤ 9 ∧ 0 ≤ q ∧ q ≤ 9 ∧ Nums.bin (70 + p) a b = (x, 0, true) ∧ Nums.bin (70 + q) a b = (y, 0, true) ∧ x + y = 1 ∧ 0 ≤ x ∧ x ≤ 1 ∧ 0 ≤ y ∧ y ≤ 1 := by
  rcases (by omega : k = 0 ∨ k = 1 ∨ k = 2 ∨ k = 3 ∨ k = 4) with rfl | rfl | rfl | rfl | rfl
  · have e1 := Nums.cmv_bd 0 32 (a % 4294967296) (b % 4294967296)
    have e2 := Nums.cmv_bd 1 32 (a % 4294967296) (b % 4294967296)
    exact ⟨0, 1, Nums.cmv 0 32 (a % 4294967296) (b % 4294967296), Nums.cmv 1 32 (a % 4294967296) (b % 4294967296), rfl, rfl, by decide, by decide, by decide, by decide, rfl, rfl, Nums.cm01 32 _ _, e1.1, e1.2, e2.1, e2.2⟩
  · have e1 := Nums.cmv_bd 2 32 (a % 4294967296) (b % 4294967296)
    have e2 := Nums.cmv_bd 8 32 (a % 4294967296) (b % 4294967296)
    exact ⟨2, 8, Nums.cmv 2 32 (a % 4294967296) (b % 4294967296), Nums.cmv 8 32 (a % 4294967296) (b % 4294967296), rfl, rfl, by decide, by decide, by decide, by decide, rfl, rfl, Nums.cm28 32 _ _, e1.1, e1.2, e2.1, e2.2⟩
  · have e1 := Nums.cmv_bd 3 32 (a % 4294967296) (b % 4294967296)
    have e2 := Nums.cmv_bd 9 32 (a % 4294967296) (b % 4294967296)
    exact ⟨3, 9, Nums.cmv 3 32 (a % 4294967296) (b % 4294967296), Nums.cmv 9 32 (a % 4294967296) (b % 4294967296), rfl, rfl, by decide, by decide, by decide, by decide, rfl, rfl, Nums.cm39 32 _ _, e1.1, e1.2, e2.1, e2.2⟩
  · have e1 := Nums.cmv_bd 4 32 (a % 4294967296) (b % 4294967296)
    have e2 := Nums.cmv_bd 6 32 (a % 4294967296) (b % 4294967296)
    exact ⟨4, 6, Nums.cmv 4 32 (a % 4294967296) (b % 4294967296), Nums.cmv 6 32 (a % 4294967296) (b % 4294967296), rfl, rfl, by decide, by decide, by decide, by decide, rfl, rfl, Nums.cm46 32 _ _, e1.1, e1.2, e2.1, e2.2⟩
  · have e1 := Nums.cmv_bd 5 32 (a % 4294967296) (b % 4294967296)
    have e2 := Nums.cmv_bd 7 32 (a % 4294967296) (b % 4294967296)
    exact ⟨5, 7, Nums.cmv 5 32 (a % 4294967296) (b % 4294967296), Nums.cmv 7 32 (a % 4294967296) (b % 4294967296), rfl, rfl, by decide, by decide, by decide, by decide, rfl, rfl, Nums.cm57 32 _ _, e1.1, e1.2, e2.1, e2.2⟩

theorem not_u64 (a : Int) (h0 : 0 ≤ a) (h1 : a ≤ 18446744073709551615) : 0 ≤ 18446744073709551615 - a ∧ 18446744073709551615 - a ≤ 18446744073709551615 := by omega
theorem counts32 (a : Int) (h0 : 0 ≤ a) (h1 : a ≤ 18446744073709551615) : ∃ n m k : Nat, Nums.un 105 a = ((n : Int), true) ∧ Nums.un 105 (18446744073709551615 - a) = ((m : Int), true) ∧ Nums.un 103 a = ((k : Int), true) ∧ n + m = 32 ∧ k + n ≤ 32 := by
  refine ⟨Nums.pop 32 (a % 4294967296), Nums.pop 32 ((18446744073709551615 - a) % 4294967296), Nums.clz (a % 4294967296) 32, rfl, rfl, rfl, ?_, Nums.clz_pop 32 _⟩
  have e : (18446744073709551615 - a) % 4294967296 = 2 ^ 32 - 1 - a % 4294967296 := by
    have : (2 : Int) ^ 32 = 4294967296 := by decide
    rw [this]; omega
  rw [e]
  exact Nums.pop_compl 32 _ (by omega) (by have : (2 : Int) ^ 32 = 4294967296 := by decide
                                           rw [this]; omega)
theorem counts64 (a : Int) (h0 : 0 ≤ a) (h1 : a ≤ 18446744073709551615) : ∃ n m k : Nat, Nums.un 123 a = ((n : Int), true) ∧ Nums.un 123 (18446744073709551615 - a) = ((m : Int), true) ∧ Nums.un 121 a = ((k : Int), true) ∧ n + m = 64 ∧ k + n ≤ 64 := by
  refine ⟨Nums.pop 64 a, Nums.pop 64 (18446744073709551615 - a), Nums.clz a 64, rfl, rfl, rfl, ?_, Nums.clz_pop 64 _⟩
  have e64 : (2 : Int) ^ 64 = 18446744073709551616 := by decide
  have e : 18446744073709551615 - a = 2 ^ 64 - 1 - a := by rw [e64]; omega
  rw [e]
  exact Nums.pop_compl 64 _ (by omega) (by rw [e64]; omega)

set_option maxHeartbeats 1000000 in
theorem opp32 {I : World → Prop} (C : NumsC I) (a b : Int) (w : World) (hI : I w) (h0 : 0 ≤ a) (h1 : a ≤ 18446744073709551615) (k0 : 0 ≤ b) (k1 : b ≤ 18446744073709551615) :
    Calls Tryd.prog 3 #[.int .u64 a, .int .u64 b, .bool false] w fun e w' => e = .returned (.bool true) ∧ Below w.heap.size w w' := by
  obtain ⟨n, m, k, f1, f2, f3, g1, g2⟩ := counts32 a h0 h1
  have hn := not_u64 a h0 h1
  have g3 : (n : Int) + (m : Int) = 32 := by omega
  have g4 : (k : Int) + (n : Int) ≤ 32 := by omega
  have F1 := hide f1
  have F2 := hide f2
  have F3 := hide f3
  clear f1 f2 f3
  go_enter Tryd.func3, Tryd.ntmps3
  go_wp2_with fail
  go_loopw [11] (fun i wr => ∃ k : Nat, k ≤ 5 ∧ i = .int .i64 k ∧ Pairs w wr) (fun i _ => 5 - (intOf i).toNat)
  case atStart => exact ⟨0, by omega, rfl, pairs_new w _, by simp, (Below.refl _ _).alloc (Nat.le_refl _) _⟩
  case round =>
    obtain ⟨i, hi, rfl, hP⟩ := hrel
    have hIr := C.keep hP.bel hI
    by_cases hlt : i < 5
    · obtain ⟨p, q, x, y, hp, hq, p0, p1, q0, q1, b1, b2, hxy, x0, x1, y0, y1⟩ := pair32 a b i hlt
      have c1 := hP.cell _ _ hp
      have B1 := hide b1
      have B2 := hide b2
      have HQ := hide hq
      clear b1 b2 hp hq
      go_wp2_with fail
      refine (C.bin _ _ _ _ hIr h0 h1 k0 k1).mono ?_
      rintro e w1 ⟨rfl, hb1⟩
      have hP1 := hP.on hb1
      have hI1 := C.keep hb1 hIr
      have c2 := hP1.cell _ _ HQ.out
      rw [B1.out]
      clear c1
      go_wp2_with fail
      refine (C.bin _ _ _ _ hI1 h0 h1 k0 k1).mono ?_
      rintro e w2 ⟨rfl, hb2⟩
      have hP2 := hP1.on hb2
      rw [B2.out]
      have hs : (IntKind.u64.wrap (x + y) == 1) = true := by rw [hxy]; rfl
      go_wp2
      go_roundw
      case rel => exact ⟨i + 1, by omega, by go_num, hP2⟩
      case measure => simp [intOf]; omega
    · have hP5 := hP
      go_wp2_with fail
      refine (C.un _ _ _ hIr h0 h1).mono ?_
      rintro e w1 ⟨rfl, hb1⟩
      have hI1 := C.keep hb1 hIr
      rw [F1.out]
      go_wp2_with fail
      rw [Nums.not_all a h0 h1]
      refine (C.un _ _ _ hI1 hn.1 hn.2).mono ?_
      rintro e w2 ⟨rfl, hb2⟩
      have hI2 := C.keep hb2 hI1
      rw [F2.out]
      go_wp2_with fail
      refine (C.un _ _ _ hI2 h0 h1).mono ?_
      rintro e w3 ⟨rfl, hb3⟩
      have hI3 := C.keep hb3 hI2
      rw [F3.out]
      go_wp2_with fail
      refine (wakesC C _ hI3).mono ?_
      rintro e w9 ⟨rfl, hb9⟩
      go_wp2
      go_ret
      exact ⟨rfl, bel_on (bel_on (bel_on (bel_on hP5.bel hb1) hb2) hb3) hb9⟩

theorem pair64 (a b : Int) (k : Nat) (hk : k < 5) : ∃ p q x y : Int, pairsL[k * 2]? = some p ∧ pairsL[k * 2 + 1]? = some q ∧ 0 ≤ p ∧ p ≤ 9 ∧ 0 ≤ q ∧ q ≤ 9 ∧ Nums.bin (81 + p) a b = (x, 0, true) ∧ Nums.bin (81 + q) a b = (y, 0, true) ∧ x + y = 1 ∧ 0 ≤ x ∧ x ≤ 1 ∧ 0 ≤ y ∧ y ≤ 1 := by
  rcases (by omega : k = 0 ∨ k = 1 ∨ k = 2 ∨ k = 3 ∨ k = 4) with rfl | rfl | rfl | rfl | rfl
  · have e1 := Nums.cmv_bd 0 64 (a) (b)
    have e2 := Nums.cmv_bd 1 64 (a) (b)
    exact ⟨0, 1, Nums.cmv 0 64 (a) (b), Nums.cmv 1 64 (a) (b), rfl, rfl, by decide, by decide, by decide, by decide, rfl, rfl, Nums.cm01 64 _ _, e1.1, e1.2, e2.1, e2.2⟩
  · have e1 := Nums.cmv_bd 2 64 (a) (b)
    have e2 := Nums.cmv_bd 8 64 (a) (b)
    exact ⟨2, 8, Nums.cmv 2 64 (a) (b), Nums.cmv 8 64 (a) (b), rfl, rfl, by decide, by decide, by decide, by decide, rfl, rfl, Nums.cm28 64 _ _, e1.1, e1.2, e2.1, e2.2⟩
  · have e1 := Nums.cmv_bd 3 64 (a) (b)
    have e2 := Nums.cmv_bd 9 64 (a) (b)
    exact ⟨3, 9, Nums.cmv 3 64 (a) (b), Nums.cmv 9 64 (a) (b), rfl, rfl, by decide, by decide, by decide, by decide, rfl, rfl, Nums.cm39 64 _ _, e1.1, e1.2, e2.1, e2.2⟩
  · have e1 := Nums.cmv_bd 4 64 (a) (b)
    have e2 := Nums.cmv_bd 6 64 (a) (b)
    exact ⟨4, 6, Nums.cmv 4 64 (a) (b), Nums.cmv 6 64 (a) (b), rfl, rfl, by decide, by decide, by decide, by decide, rfl, rfl, Nums.cm46 64 _ _, e1.1, e1.2, e2.1, e2.2⟩
  · have e1 := Nums.cmv_bd 5 64 (a) (b)
    have e2 := Nums.cmv_bd 7 64 (a) (b)
    exact ⟨5, 7, Nums.cmv 5 64 (a) (b), Nums.cmv 7 64 (a) (b), rfl, rfl, by decide, by decide, by decide, by decide, rfl, rfl, Nums.cm57 64 _ _, e1.1, e1.2, e2.1, e2.2⟩

set_option maxHeartbeats 1000000 in
theorem opp64 {I : World → Prop} (C : NumsC I) (a b : Int) (w : World) (hI : I w) (h0 : 0 ≤ a) (h1 : a ≤ 18446744073709551615) (k0 : 0 ≤ b) (k1 : b ≤ 18446744073709551615) :
    Calls Tryd.prog 3 #[.int .u64 a, .int .u64 b, .bool true] w fun e w' => e = .returned (.bool true) ∧ Below w.heap.size w w' := by
  obtain ⟨n, m, k, f1, f2, f3, g1, g2⟩ := counts64 a h0 h1
  have hn := not_u64 a h0 h1
  have g3 : (n : Int) + (m : Int) = 64 := by omega
  have g4 : (k : Int) + (n : Int) ≤ 64 := by omega
  have F1 := hide f1
  have F2 := hide f2
  have F3 := hide f3
  clear f1 f2 f3
  go_enter Tryd.func3, Tryd.ntmps3
  go_wp2_with fail
  go_loopw [11] (fun i wr => ∃ k : Nat, k ≤ 5 ∧ i = .int .i64 k ∧ Pairs w wr) (fun i _ => 5 - (intOf i).toNat)
  case atStart => exact ⟨0, by omega, rfl, pairs_new w _, by simp, (Below.refl _ _).alloc (Nat.le_refl _) _⟩
  case round =>
    obtain ⟨i, hi, rfl, hP⟩ := hrel
    have hIr := C.keep hP.bel hI
    by_cases hlt : i < 5
    · obtain ⟨p, q, x, y, hp, hq, p0, p1, q0, q1, b1, b2, hxy, x0, x1, y0, y1⟩ := pair64 a b i hlt
      have c1 := hP.cell _ _ hp
      have B1 := hide b1
      have B2 := hide b2
      have HQ := hide hq
      clear b1 b2 hp hq
      go_wp2_with fail
      refine (C.bin _ _ _ _ hIr h0 h1 k0 k1).mono ?_
      rintro e w1 ⟨rfl, hb1⟩
      have hP1 := hP.on hb1
      have hI1 := C.keep hb1 hIr
      have c2 := hP1.cell _ _ HQ.out
      rw [B1.out]
      clear c1
      go_wp2_with fail
      refine (C.bin _ _ _ _ hI1 h0 h1 k0 k1).mono ?_
      rintro e w2 ⟨rfl, hb2⟩
      have hP2 := hP1.on hb2
      rw [B2.out]
      have hs : (IntKind.u64.wrap (x + y) == 1) = true := by rw [hxy]; rfl
      go_wp2
      go_roundw
      case rel => exact ⟨i + 1, by omega, by go_num, hP2⟩
      case measure => simp [intOf]; omega
    · have hP5 := hP
      go_wp2_with fail
      refine (C.un _ _ _ hIr h0 h1).mono ?_
      rintro e w1 ⟨rfl, hb1⟩
      have hI1 := C.keep hb1 hIr
      rw [F1.out]
      go_wp2_with fail
      rw [Nums.not_all a h0 h1]
      refine (C.un _ _ _ hI1 hn.1 hn.2).mono ?_
      rintro e w2 ⟨rfl, hb2⟩
      have hI2 := C.keep hb2 hI1
      rw [F2.out]
      go_wp2_with fail
      refine (C.un _ _ _ hI2 h0 h1).mono ?_
      rintro e w3 ⟨rfl, hb3⟩
      have hI3 := C.keep hb3 hI2
      rw [F3.out]
      go_wp2_with fail
      refine (wakesC C _ hI3).mono ?_
      rintro e w9 ⟨rfl, hb9⟩
      go_wp2
      go_ret
      exact ⟨rfl, bel_on (bel_on (bel_on (bel_on hP5.bel hb1) hb2) hb3) hb9⟩

theorem oppC {I : World → Prop} (C : NumsC I) (a b : Int) (wide : Bool) (w : World) (hI : I w) (h0 : 0 ≤ a) (h1 : a ≤ 18446744073709551615) (k0 : 0 ≤ b) (k1 : b ≤ 18446744073709551615) :
    Calls Tryd.prog 3 #[.int .u64 a, .int .u64 b, .bool wide] w fun e w' => e = .returned (.bool true) ∧ Below w.heap.size w w' := by
  cases wide
  · exact opp32 C a b w hI h0 h1 k0 k1
  · exact opp64 C a b w hI h0 h1 k0 k1
end Go.Proofs.YtilgmaabongngabDoor
