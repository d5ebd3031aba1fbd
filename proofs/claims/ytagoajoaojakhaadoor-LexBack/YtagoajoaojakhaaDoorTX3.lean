/- Tokens as a text: a token's spelling; whether it is read out of it. -/
import Derived.Test.YtagoajoaojakhaaDoorTX2
import Derived.Test.YtagoajoaojakhaaDoorA14
import Derived.Lib.SmallJoins
namespace Go.Proofs.YtagoajoaojakhaaDoor
open Go.RowKit Lx
set_option linter.unusedVariables false
namespace Lx
theorem TP.on {w w' : World} (h : TP w) (hb : Below w.heap.size w w') : TP w' := Go.Joins.var_stays (P := Tryd.prog) (g := 5) (by kernel_rfl) h hb (Nat.le_refl _)
abbrev tkV (k : Int) (x : ByteArray) (n a : Int) : Value := .agg #[.int .i64 k, .string x, .int .i64 n, .int .i64 a]
theorem eqT {a b : Int} (h : a = b) : (a == b) = true := beq_iff_eq.2 h
theorem eqF {a b : Int} (h : a ≠ b) : (a == b) = false := beq_eq_false_iff_ne.2 h
theorem tA (w : World) (k : Int) (x : ByteArray) (n a : Int) (t : TypeId) : Below w.heap.size w (w.alloc (.cells #[.int .i64 k, .string x, .int .i64 n, .int .i64 a] t)) := (Below.refl _ w).alloc (Nat.le_refl _) _
theorem box_cells {w u : World} {k : Int} {x : ByteArray} {n a : Int} {t : TypeId} (hb : Below (w.alloc (.cells #[.int .i64 k, .string x, .int .i64 n, .int .i64 a] t)).heap.size (w.alloc (.cells #[.int .i64 k, .string x, .int .i64 n, .int .i64 a] t)) u) :
    w.heap.size < u.heap.size ∧ u.cell? ⟨w.heap.size, 0, none⟩ = some (.int .i64 k) ∧ u.cell? ⟨w.heap.size, 1, none⟩ = some (.string x) ∧ u.cell? ⟨w.heap.size, 2, none⟩ = some (.int .i64 n) ∧ u.cell? ⟨w.heap.size, 3, none⟩ = some (.int .i64 a) := by
  have hs := hb.size
  have hz : (w.alloc (.cells #[.int .i64 k, .string x, .int .i64 n, .int .i64 a] t)).heap.size = w.heap.size + 1 := by simp
  refine ⟨by omega, ?_, ?_, ?_, ?_⟩
  all_goals (rw [hb.cell (by show w.heap.size < _; omega), World.cell?_alloc_at _ t _ _ rfl]; rfl)
theorem ne_empty {s : ByteArray} (h : ¬ s.size = 0) : s.toList.isEmpty = false := by
  rw [ByteArray.toList_eq, List.isEmpty_eq_false_iff]
  intro e
  exact h (by show s.data.size = 0; rw [← Array.length_toList, e]; rfl)
end Lx
set_option maxRecDepth 100000 in
set_option maxHeartbeats 4000000 in
theorem pSpell (k : Int) (x : ByteArray) (n a : Int) (hz : x.size ≤ 140737488355328) (hn0 : -9223372036854775808 ≤ n) (hn1 : n ≤ 9223372036854775807) (w : World) (hT : TP w) :
    Calls Tryd.prog 11 #[tkV k x n a] w fun e w' => e = .returned (.string (spl k x n)) ∧ Below w.heap.size w w' := by
  have HA := hideR (tA w k x n a 25)
  by_cases h3 : k = 3
  · have q3 := eqT h3
    have hs : spl k x n = ⟨#[39]⟩ ++ x := if_pos h3
    rw [hs]
    have hc : ¬ 9223372036854775807 < 1 + x.size := by omega
    clear hs h3 hz
    go_enter Tryd.func11, Tryd.ntmps11
    go_wp2
    go_ret
    exact ⟨rfl, HA.out⟩
  · have q3 := eqF h3
    by_cases h4 : k = 4
    · have q4 := eqT h4
      have hs : spl k x n = itx n := by unfold spl; rw [if_neg h3, if_pos h4]
      rw [hs]
      have HI := hideR (sItoa n hn0 hn1 _ (hT.on HA.out))
      have HR := fun (u : World) => hideR (sReplace n hn0 hn1 u)
      generalize itx n = R at *
      generalize (⟨(Lib.itoa n).toArray⟩ : ByteArray) = I at *
      clear hs h3 h4 hz
      go_enter Tryd.func11, Tryd.ntmps11
      go_wp2_with fail
      refine Calls.mono (show Calls _ _ _ _ _ from HI.out) ?_
      rintro e u1 ⟨rfl, hb1⟩
      have HB1 := hideR (below_go HA.out hb1)
      clear hb1 HI
      go_wp2_with fail
      refine Calls.mono (show Calls _ _ _ _ _ from (HR _).out) ?_
      rintro e u2 ⟨rfl, hb2⟩
      have HB2 := hideR (below_go HB1.out hb2)
      clear hb2 HR
      go_wp2
      go_ret
      exact ⟨rfl, HB2.out⟩
    · have q4 := eqF h4
      have hs : spl k x n = x := by unfold spl; rw [if_neg h3, if_neg h4]
      rw [hs]
      clear hs h3 h4
      go_enter Tryd.func11, Tryd.ntmps11
      go_wp2
      go_ret
      exact ⟨rfl, HA.out⟩
set_option maxRecDepth 100000 in
set_option maxHeartbeats 4000000 in
theorem pMakes (s : ByteArray) (k : Int) (x : ByteArray) (n a : Int) (hz : s.size ≤ 281474976710656) (w : World) (hWL : WL w) :
    Calls Tryd.prog 12 #[.string s, tkV k x n a] w fun e w' => e = .returned (.bool (mkT s k x n)) ∧ Below w.heap.size w w' := by
  have HA := hideR (tA w k x n a 25)
  by_cases h0 : s.size = 0
  · have hs : s = ⟨#[]⟩ := by apply ByteArray.ext; exact Array.eq_empty_of_size_eq_zero h0
    have hm : mkT s k x n = false := by unfold mkT; rw [decide_eq_false (by omega)]; rfl
    rw [hm]
    subst hs
    clear hm h0 hz
    go_enter Tryd.func12, Tryd.ntmps12
    go_wp2
    go_ret
    exact ⟨rfl, HA.out⟩
  · have q0 := ne_empty h0
    have HF := hideR (pFirst s (by omega) (by omega) hz _ (hWL.on HA.out))
    have hm : mkT s k x n = (match one s 0 with | .error _ => false | .ok (k', x', n', e) => decide (e = s.size) && decide (k' = k ∧ x' = x ∧ n' = n)) := by unfold mkT; rw [decide_eq_true (by omega), Bool.true_and]; rfl
    rw [hm]
    clear hm hWL
    cases ho : one s 0 with
    | error z =>
      rw [ho] at HF
      have q1 := (aN (one_err ho)).1
      clear ho h0 hz
      go_enter Tryd.func12, Tryd.ntmps12
      go_wp2_with fail
      refine Calls.mono (show Calls _ _ _ _ _ from HF.out) ?_
      rintro e u1 ⟨rfl, hb1⟩
      have HB1 := hideR (below_go HA.out hb1)
      obtain ⟨hlt, c0, c1, c2, c3⟩ := box_cells hb1
      clear hb1 HF
      simp only [oOut]
      go_wp2
      go_ret
      exact ⟨rfl, by first | exact (HB1.out.alloc HB1.out.size _) | exact ((HB1.out.alloc HB1.out.size _).setCell HB1.out.size _)⟩
    | ok r =>
      obtain ⟨k', x', n', E⟩ := r
      rw [ho] at HF
      by_cases hE : E = s.size
      · have q1 : ((E : Int) == (s.size : Int)) = true := beq_iff_eq.2 (by omega)
        by_cases hk : k' = k
        · have q2 := eqT hk
          by_cases hx : x' = x
          · have q3 := bytes_eq hx
            by_cases hn : n' = n
            · have q4 := eqT hn
              have HR : Hid ((decide (E = s.size) && decide (k' = k ∧ x' = x ∧ n' = n)) = true) := hideR (by rw [decide_eq_true hE, decide_eq_true ⟨hk, hx, hn⟩]; rfl)
              clear ho h0 hz hE hk hx hn
              go_enter Tryd.func12, Tryd.ntmps12
              go_wp2_with fail
              refine Calls.mono (show Calls _ _ _ _ _ from HF.out) ?_
              rintro e u1 ⟨rfl, hb1⟩
              have HB1 := hideR (below_go HA.out hb1)
              obtain ⟨hlt, c0, c1, c2, c3⟩ := box_cells hb1
              clear hb1 HF
              simp only [oOut]
              go_wp2
              go_ret
              exact ⟨ret_bool HR.out.symm, by first | exact (HB1.out.alloc HB1.out.size _) | exact ((HB1.out.alloc HB1.out.size _).setCell HB1.out.size _)⟩
            · have q4 := eqF hn
              have HR : Hid ((decide (E = s.size) && decide (k' = k ∧ x' = x ∧ n' = n)) = false) := hideR (by rw [decide_eq_false (fun h : k' = k ∧ x' = x ∧ n' = n => hn h.2.2), Bool.and_false])
              clear ho h0 hz hE hk hx hn
              go_enter Tryd.func12, Tryd.ntmps12
              go_wp2_with fail
              refine Calls.mono (show Calls _ _ _ _ _ from HF.out) ?_
              rintro e u1 ⟨rfl, hb1⟩
              have HB1 := hideR (below_go HA.out hb1)
              obtain ⟨hlt, c0, c1, c2, c3⟩ := box_cells hb1
              clear hb1 HF
              simp only [oOut]
              go_wp2
              go_ret
              exact ⟨ret_bool HR.out.symm, by first | exact (HB1.out.alloc HB1.out.size _) | exact ((HB1.out.alloc HB1.out.size _).setCell HB1.out.size _)⟩
          · have q3 := bytes_ne hx
            have HR : Hid ((decide (E = s.size) && decide (k' = k ∧ x' = x ∧ n' = n)) = false) := hideR (by rw [decide_eq_false (fun h : k' = k ∧ x' = x ∧ n' = n => hx h.2.1), Bool.and_false])
            clear ho h0 hz hE hk hx
            go_enter Tryd.func12, Tryd.ntmps12
            go_wp2_with fail
            refine Calls.mono (show Calls _ _ _ _ _ from HF.out) ?_
            rintro e u1 ⟨rfl, hb1⟩
            have HB1 := hideR (below_go HA.out hb1)
            obtain ⟨hlt, c0, c1, c2, c3⟩ := box_cells hb1
            clear hb1 HF
            simp only [oOut]
            go_wp2
            go_ret
            exact ⟨ret_bool HR.out.symm, by first | exact (HB1.out.alloc HB1.out.size _) | exact ((HB1.out.alloc HB1.out.size _).setCell HB1.out.size _)⟩
        · have q2 := eqF hk
          have HR : Hid ((decide (E = s.size) && decide (k' = k ∧ x' = x ∧ n' = n)) = false) := hideR (by rw [decide_eq_false (fun h : k' = k ∧ x' = x ∧ n' = n => hk h.1), Bool.and_false])
          clear ho h0 hz hE hk
          go_enter Tryd.func12, Tryd.ntmps12
          go_wp2_with fail
          refine Calls.mono (show Calls _ _ _ _ _ from HF.out) ?_
          rintro e u1 ⟨rfl, hb1⟩
          have HB1 := hideR (below_go HA.out hb1)
          obtain ⟨hlt, c0, c1, c2, c3⟩ := box_cells hb1
          clear hb1 HF
          simp only [oOut]
          go_wp2
          go_ret
          exact ⟨ret_bool HR.out.symm, by first | exact (HB1.out.alloc HB1.out.size _) | exact ((HB1.out.alloc HB1.out.size _).setCell HB1.out.size _)⟩
      · have q1 : ((E : Int) == (s.size : Int)) = false := beq_eq_false_iff_ne.2 (by omega)
        have HR : Hid ((decide (E = s.size) && decide (k' = k ∧ x' = x ∧ n' = n)) = false) := hideR (by rw [decide_eq_false hE, Bool.false_and])
        clear ho h0 hz hE
        go_enter Tryd.func12, Tryd.ntmps12
        go_wp2_with fail
        refine Calls.mono (show Calls _ _ _ _ _ from HF.out) ?_
        rintro e u1 ⟨rfl, hb1⟩
        have HB1 := hideR (below_go HA.out hb1)
        obtain ⟨hlt, c0, c1, c2, c3⟩ := box_cells hb1
        clear hb1 HF
        simp only [oOut]
        go_wp2
        go_ret
        exact ⟨ret_bool HR.out.symm, by first | exact (HB1.out.alloc HB1.out.size _) | exact ((HB1.out.alloc HB1.out.size _).setCell HB1.out.size _)⟩
end Go.Proofs.YtagoajoaojakhaaDoor
