/- Tokens as a text: the document's Good: printed by gen_tx7.py. -/
import Derived.Test.YtagoajoaojakhaaDoorTX6
import Derived.Test.YtagoajoaojakhaaDoorTX3
namespace Go.Proofs.YtagoajoaojakhaaDoor
open Go.RowKit Lx
set_option linter.unusedVariables false
namespace Lx
theorem neT {a b : Int} (h : a ≠ b) : (a != b) = true := bne_iff_ne.2 h
theorem neF {a b : Int} (h : a = b) : (a != b) = false := by subst h; simp
end Lx
set_option maxRecDepth 100000 in
set_option maxHeartbeats 4000000 in
theorem rGoodN (k : Int) (x : ByteArray) (n a : Int) (w : World) (h4 : k ≠ 4) (hn : n ≠ 0) : Calls Tryd.prog 17 #[tkV k x n a] w fun e w' => e = .returned (.bool (gdT k x n)) ∧ Below w.heap.size w w' := by
  have HA := hideR (tA w k x n a 25)
  have hg : gdT k x n = false := by unfold gdT; rw [if_pos ⟨h4, hn⟩]
  have q0 := neT h4
  have q1 := neT hn
  rw [hg]
  clear hg h4 hn
  go_enter Tryd.func17, Tryd.ntmps17
  go_wp2
  go_ret
  exact ⟨rfl, HA.out⟩
set_option maxRecDepth 100000 in
set_option maxHeartbeats 4000000 in
theorem rGood2 (k : Int) (x : ByteArray) (n a : Int) (w : World) (hk : k = 2) (hn : n = 0) : Calls Tryd.prog 17 #[tkV k x n a] w fun e w' => e = .returned (.bool (gdT k x n)) ∧ Below w.heap.size w w' := by
  have HA := hideR (tA w k x n a 25)
  have hg : gdT k x n = wd x false := by unfold gdT; rw [if_neg (by rintro ⟨_, h⟩; exact h hn), if_neg (by omega), if_pos hk]
  have q0 := neT (show k ≠ 4 by omega)
  have q1 := neF hn
  have t1 := eqF (show k ≠ 1 by omega)
  have t2 := eqT (show k = 2 by omega)
  have HW := hideR (rWord x false (w.alloc (.cells #[.int .i64 k, .string x, .int .i64 n, .int .i64 a] 25)))
  rw [hg]
  generalize wd x false = R at *
  clear hg hk hn
  go_enter Tryd.func17, Tryd.ntmps17
  go_wp2_with fail
  refine Calls.mono (show Calls _ _ _ _ _ from HW.out) ?_
  rintro e u ⟨rfl, rfl⟩
  go_wp2
  go_ret
  exact ⟨rfl, HA.out⟩
set_option maxRecDepth 100000 in
set_option maxHeartbeats 4000000 in
theorem rGood3 (k : Int) (x : ByteArray) (n a : Int) (w : World) (hk : k = 3) (hn : n = 0) : Calls Tryd.prog 17 #[tkV k x n a] w fun e w' => e = .returned (.bool (gdT k x n)) ∧ Below w.heap.size w w' := by
  have HA := hideR (tA w k x n a 25)
  have hg : gdT k x n = wd x true := by unfold gdT; rw [if_neg (by rintro ⟨_, h⟩; exact h hn), if_neg (by omega), if_neg (by omega), if_pos hk]
  have q0 := neT (show k ≠ 4 by omega)
  have q1 := neF hn
  have t1 := eqF (show k ≠ 1 by omega)
  have t2 := eqF (show k ≠ 2 by omega)
  have t3 := eqT (show k = 3 by omega)
  have HW := hideR (rWord x true (w.alloc (.cells #[.int .i64 k, .string x, .int .i64 n, .int .i64 a] 25)))
  rw [hg]
  generalize wd x true = R at *
  clear hg hk hn
  go_enter Tryd.func17, Tryd.ntmps17
  go_wp2_with fail
  refine Calls.mono (show Calls _ _ _ _ _ from HW.out) ?_
  rintro e u ⟨rfl, rfl⟩
  go_wp2
  go_ret
  exact ⟨rfl, HA.out⟩
set_option maxRecDepth 100000 in
set_option maxHeartbeats 4000000 in
theorem rGood5 (k : Int) (x : ByteArray) (n a : Int) (w : World) (hk : k = 5) (hn : n = 0) : Calls Tryd.prog 17 #[tkV k x n a] w fun e w' => e = .returned (.bool (gdT k x n)) ∧ Below w.heap.size w w' := by
  have HA := hideR (tA w k x n a 25)
  have hg : gdT k x n = amg x keys := by unfold gdT; rw [if_neg (by rintro ⟨_, h⟩; exact h hn), if_neg (by omega), if_neg (by omega), if_neg (by omega), if_neg (by omega), if_pos hk]
  have q0 := neT (show k ≠ 4 by omega)
  have q1 := neF hn
  have t1 := eqF (show k ≠ 1 by omega)
  have t2 := eqF (show k ≠ 2 by omega)
  have t3 := eqF (show k ≠ 3 by omega)
  have t4 := eqF (show k ≠ 4 by omega)
  have t5 := eqT (show k = 5 by omega)
  have HW := hideR (rKey x (w.alloc (.cells #[.int .i64 k, .string x, .int .i64 n, .int .i64 a] 25)))
  rw [hg]
  generalize amg x keys = R at *
  clear hg hk hn
  go_enter Tryd.func17, Tryd.ntmps17
  go_wp2_with fail
  refine Calls.mono (show Calls _ _ _ _ _ from HW.out) ?_
  rintro e u ⟨rfl, hb⟩
  have HB := hideR (below_go HA.out hb)
  clear hb
  go_wp2
  go_ret
  exact ⟨rfl, HB.out⟩
set_option maxRecDepth 100000 in
set_option maxHeartbeats 4000000 in
theorem rGood6 (k : Int) (x : ByteArray) (n a : Int) (w : World) (hk : k = 6) (hn : n = 0) : Calls Tryd.prog 17 #[tkV k x n a] w fun e w' => e = .returned (.bool (gdT k x n)) ∧ Below w.heap.size w w' := by
  have HA := hideR (tA w k x n a 25)
  have hg : gdT k x n = amg x signs := by unfold gdT; rw [if_neg (by rintro ⟨_, h⟩; exact h hn), if_neg (by omega), if_neg (by omega), if_neg (by omega), if_neg (by omega), if_neg (by omega), if_pos hk]
  have q0 := neT (show k ≠ 4 by omega)
  have q1 := neF hn
  have t1 := eqF (show k ≠ 1 by omega)
  have t2 := eqF (show k ≠ 2 by omega)
  have t3 := eqF (show k ≠ 3 by omega)
  have t4 := eqF (show k ≠ 4 by omega)
  have t5 := eqF (show k ≠ 5 by omega)
  have t6 := eqT (show k = 6 by omega)
  have HW := hideR (rSign x (w.alloc (.cells #[.int .i64 k, .string x, .int .i64 n, .int .i64 a] 25)))
  rw [hg]
  generalize amg x signs = R at *
  clear hg hk hn
  go_enter Tryd.func17, Tryd.ntmps17
  go_wp2_with fail
  refine Calls.mono (show Calls _ _ _ _ _ from HW.out) ?_
  rintro e u ⟨rfl, hb⟩
  have HB := hideR (below_go HA.out hb)
  clear hb
  go_wp2
  go_ret
  exact ⟨rfl, HB.out⟩
set_option maxRecDepth 100000 in
set_option maxHeartbeats 4000000 in
theorem rGoodO (k : Int) (x : ByteArray) (n a : Int) (w : World) (h1 : k ≠ 1) (h2 : k ≠ 2) (h3 : k ≠ 3) (h4 : k ≠ 4) (h5 : k ≠ 5) (h6 : k ≠ 6) (hn : n = 0) : Calls Tryd.prog 17 #[tkV k x n a] w fun e w' => e = .returned (.bool (gdT k x n)) ∧ Below w.heap.size w w' := by
  have HA := hideR (tA w k x n a 25)
  have hg : gdT k x n = false := by unfold gdT; rw [if_neg (by rintro ⟨_, h⟩; exact h hn), if_neg h1, if_neg h2, if_neg h3, if_neg h4, if_neg h5, if_neg h6]
  have q0 := neT h4
  have q1 := neF hn
  have t1 := eqF h1
  have t2 := eqF h2
  have t3 := eqF h3
  have t4 := eqF h4
  have t5 := eqF h5
  have t6 := eqF h6
  rw [hg]
  clear hg h1 h2 h3 h4 h5 h6 hn
  go_enter Tryd.func17, Tryd.ntmps17
  go_wp2
  go_ret
  exact ⟨rfl, HA.out⟩
set_option maxRecDepth 100000 in
set_option maxHeartbeats 4000000 in
theorem rGood1 (k : Int) (x : ByteArray) (n a : Int) (w : World) (hk : k = 1) (hn : n = 0) : Calls Tryd.prog 17 #[tkV k x n a] w fun e w' => e = .returned (.bool (gdT k x n)) ∧ Below w.heap.size w w' := by
  have HA := hideR (tA w k x n a 25)
  have hg : gdT k x n = (wd x true && !amg x keys) := by unfold gdT; rw [if_neg (by rintro ⟨_, h⟩; exact h hn), if_pos hk]
  have q0 := neT (show k ≠ 4 by omega)
  have q1 := neF hn
  have t1 := eqT hk
  have HW := hideR (rWord x true (w.alloc (.cells #[.int .i64 k, .string x, .int .i64 n, .int .i64 a] 25)))
  have HK := hideR (rKey x (w.alloc (.cells #[.int .i64 k, .string x, .int .i64 n, .int .i64 a] 25)))
  rw [hg]
  generalize wd x true = R at *
  generalize amg x keys = S at *
  clear hg hk hn
  cases R with
  | false =>
    go_enter Tryd.func17, Tryd.ntmps17
    go_wp2_with fail
    refine Calls.mono (show Calls _ _ _ _ _ from HW.out) ?_
    rintro e u ⟨rfl, rfl⟩
    go_wp2
    go_ret
    exact ⟨rfl, HA.out⟩
  | true =>
    go_enter Tryd.func17, Tryd.ntmps17
    go_wp2_with fail
    refine Calls.mono (show Calls _ _ _ _ _ from HW.out) ?_
    rintro e u ⟨rfl, rfl⟩
    go_wp2_with fail
    refine Calls.mono (show Calls _ _ _ _ _ from HK.out) ?_
    rintro e u ⟨rfl, hb⟩
    have HB := hideR (below_go HA.out hb)
    clear hb
    cases S
    · go_wp2
      go_ret
      exact ⟨rfl, HB.out⟩
    · go_wp2
      go_ret
      exact ⟨rfl, HB.out⟩
set_option maxRecDepth 100000 in
set_option maxHeartbeats 4000000 in
theorem rGood4 (k : Int) (x : ByteArray) (n a : Int) (w : World) (hk : k = 4) : Calls Tryd.prog 17 #[tkV k x n a] w fun e w' => e = .returned (.bool (gdT k x n)) ∧ Below w.heap.size w w' := by
  have HA := hideR (tA w k x n a 25)
  have hg : gdT k x n = (decide (x.size = 0) && isIn n) := by unfold gdT; rw [if_neg (by rintro ⟨h, _⟩; exact h hk), if_neg (by omega), if_neg (by omega), if_neg (by omega), if_pos hk]
  have q0 := neF hk
  have t1 := eqF (show k ≠ 1 by omega)
  have t2 := eqF (show k ≠ 2 by omega)
  have t3 := eqF (show k ≠ 3 by omega)
  have t4 := eqT (show k = 4 by omega)
  have HK := fun (u : World) => hideR (rIn n u)
  rw [hg]
  clear hg
  by_cases h0 : x.size = 0
  · have hs : x = ⟨#[]⟩ := by apply ByteArray.ext; exact Array.eq_empty_of_size_eq_zero h0
    subst hs
    rw [decide_eq_true h0, Bool.true_and]
    generalize isIn n = R at *
    clear h0 hk
    go_enter Tryd.func17, Tryd.ntmps17
    go_wp2_with fail
    refine Calls.mono (show Calls _ _ _ _ _ from (HK _).out) ?_
    rintro e u ⟨rfl, rfl⟩
    go_wp2
    go_ret
    exact ⟨rfl, HA.out⟩
  · have qe := ne_empty h0
    rw [decide_eq_false h0, Bool.false_and]
    clear h0 hk
    go_enter Tryd.func17, Tryd.ntmps17
    go_wp2
    go_ret
    exact ⟨rfl, HA.out⟩
theorem rGood (k : Int) (x : ByteArray) (n a : Int) (w : World) : Calls Tryd.prog 17 #[tkV k x n a] w fun e w' => e = .returned (.bool (gdT k x n)) ∧ Below w.heap.size w w' := by
  by_cases h4 : k = 4
  · exact rGood4 k x n a w h4
  · by_cases hn : n = 0
    · by_cases h1 : k = 1
      · exact rGood1 k x n a w h1 hn
      · by_cases h2 : k = 2
        · exact rGood2 k x n a w h2 hn
        · by_cases h3 : k = 3
          · exact rGood3 k x n a w h3 hn
          · by_cases h5 : k = 5
            · exact rGood5 k x n a w h5 hn
            · by_cases h6 : k = 6
              · exact rGood6 k x n a w h6 hn
              · exact rGoodO k x n a w h1 h2 h3 h4 h5 h6 hn
    · exact rGoodN k x n a w h4 hn
end Go.Proofs.YtagoajoaojakhaaDoor
