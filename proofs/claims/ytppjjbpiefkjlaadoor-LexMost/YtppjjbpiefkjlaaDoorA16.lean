/- Tokens: LexMost: behind as many tokens as there may be. -/
import Derived.Test.YtppjjbpiefkjlaaDoorA14
import Derived.Laws.BytesArg
namespace Go.Proofs.YtppjjbpiefkjlaaDoor
open Go.RowKit Lx
set_option linter.unusedVariables false
namespace Lx
theorem linfo8 : (Tryd.prog.info? 5).map (fun i => (i.zero, i.size, i.bytes)) = some (some (.int .u8 0), 1, 1) := by kernel_rfl
theorem own_str {w : World} {base : Nat} {v : Value} {n : Nat} {xs : List Int} (h : w.ownsRow base 5 1 v n (xs.map (Value.int .u8))) : ∃ S, (convert 34 9 v).run Tryd.prog w = .ok (.string S) w ∧ S.size = n := by
  have hl := h.1
  simp only [List.length_map, Nat.mul_one] at hl
  rcases h.2 with ⟨hv, h0⟩ | ⟨g, cap, cur, hv, _⟩
  · subst hv
    exact ⟨_, run_convert_bytes_nil w 34 5 Tryd.underlying34 Tryd.underlying5 0 0 9 Tryd.underlying9, by rw [h0]; rfl⟩
  · subst hv
    refine ⟨_, run_convert_bytes_arg w 34 5 Tryd.underlying34 Tryd.underlying5 g 0 n cap xs hl (fun i hi => ?_) 9 Tryd.underlying9, by rw [strOfNums_size, hl]⟩
    have := h.cellAt i (by omega)
    rw [Nat.zero_add, this]
    have hi' : i < xs.length := by omega
    simp [List.getElem?_eq_getElem hi', List.getD]
theorem one_new (w : World) (x : Value) (t : TypeId) : ∀ (j : Nat) (u : Value), [x][j]? = some u → (w.alloc (.cells #[x] t)).cell? ((⟨w.heap.size, 0, none⟩ : Addr).add j) = some u := by
  intro j u hj
  match j, hj with
  | 0, hj => simp at hj; subst hj; simp [Addr.add]
theorem own_slice {w : World} {base : Nat} {e : TypeId} {c n : Nat} {v : Value} {xs : List Value} (h : w.ownsRow base e c v n xs) : ∃ o d, v = .slice o n d := by
  rcases h.2 with ⟨h1, h2⟩ | ⟨g, cap, cur, h1, _⟩
  · exact ⟨none, 0, by rw [h1, h2]⟩
  · exact ⟨_, _, h1⟩
/-- so many bytes of one's own -/
def CB (w : World) (v : Value) (k : Nat) (wr : World) : Prop := ∃ bs : List Int, bs.length = k ∧ wr.ownsRow w.heap.size 5 1 v bs.length (bs.map (Value.int .u8)) ∧ Below w.heap.size w wr
theorem CB.app {w wr w1 : World} {v v' : Value} {bs : List Int} {x : Int} {o : Obj} (hown : wr.ownsRow w.heap.size 5 1 v bs.length (bs.map (Value.int .u8)))
    (hown' : w1.ownsRow w.heap.size 5 1 v' (bs.length + 1) (bs.map (Value.int .u8) ++ [.int .u8 x])) (hgrow : (wr.alloc o).grownBy w1 v.ownBlock) (hbel : Below w.heap.size w wr) : CB w v' (bs.length + 1) w1 :=
  ⟨bs ++ [x], by simp, by simpa using hown', (hbel.alloc hbel.size o).grown hgrow (by have := hbel.size; simp; omega) (fun j hj => (hown.lt j hj).1)⟩
theorem aW {n k : Nat} (h : k < n) (hn : n ≤ 4100) : decide ((k : Int) < (n : Int)) = true ∧ wrap64 ((k : Int) + 1) = ((k + 1 : Nat) : Int) := by
  refine ⟨decide_eq_true (by omega), ?_⟩
  unfold wrap64; omega
theorem aX {n m : Nat} (hn : n ≤ 4100) (hm : m ≤ 3000) : wrap64 ((n : Int) + (m : Int)) = ((n + m : Nat) : Int) := by unfold wrap64; omega
theorem aM7 {m : Nat} (h : m ≤ 7100) : wrap64 (m : Int) = (m : Int) := by unfold wrap64; omega
theorem aY {n : Nat} (hn : n ≤ 4100) : n + 1 ≤ maxLen ∧ (n + 1) * 1 ≤ 140737488355328 := by unfold maxLen; omega
theorem aZ2 {n : Nat} (hn : n ≤ 7100) : 1 * n ≤ 281474976710656 ∧ n ≤ maxLen := by unfold maxLen; omega
end Lx
set_option maxRecDepth 100000 in
set_option maxHeartbeats 4000000 in
theorem mostW (n : Int) (tail : ByteArray) (w : World) (hWL : WL w) (hb : n < 0 ∨ 4100 < n ∨ 3000 < tail.size) : Calls Tryd.prog 5 #[.int .i64 n, .string tail] w fun e w' => e = .returned (.bool true) ∧ Below w.heap.size w w' := by
  have HW := hideR (lWakes w hWL)
  clear hWL
  by_cases h1 : n < 0
  · have q1 : decide (n < 0) = true := decide_eq_true h1
    clear hb h1
    go_enter Tryd.func5, Tryd.ntmps5
    go_wp2_with fail
    refine HW.out.mono ?_
    rintro e u ⟨rfl, hb⟩
    have HB := hideR hb
    clear hb
    go_wp2
    go_ret
    exact ⟨rfl, HB.out⟩
  · have q1 : decide (n < 0) = false := decide_eq_false h1
    by_cases h2 : 4100 < n
    · have q2 : decide (n > 4100) = true := decide_eq_true h2
      clear hb h1 h2
      go_enter Tryd.func5, Tryd.ntmps5
      go_wp2_with fail
      refine HW.out.mono ?_
      rintro e u ⟨rfl, hb⟩
      have HB := hideR hb
      clear hb
      go_wp2
      go_ret
      exact ⟨rfl, HB.out⟩
    · have q2 : decide (n > 4100) = false := decide_eq_false h2
      have q3 : decide ((tail.size : Int) > 3000) = true := decide_eq_true (by omega)
      clear hb h1 h2
      go_enter Tryd.func5, Tryd.ntmps5
      go_wp2_with fail
      refine HW.out.mono ?_
      rintro e u ⟨rfl, hb⟩
      have HB := hideR hb
      clear hb
      go_wp2
      go_ret
      exact ⟨rfl, HB.out⟩
set_option maxRecDepth 100000 in
set_option maxHeartbeats 8000000 in
theorem mostG (n : Nat) (hn : n ≤ 4100) (tail : ByteArray) (ht : tail.size ≤ 3000) (w : World) (hWL : WL w) : Calls Tryd.prog 5 #[.int .i64 n, .string tail] w fun e w' => e = .returned (.bool true) ∧ Below w.heap.size w w' := by
  have q1 : decide ((n : Int) < 0) = false := decide_eq_false (by omega)
  have q2 : decide ((n : Int) > 4100) = false := decide_eq_false (by omega)
  have q3 : decide ((tail.size : Int) > 3000) = false := decide_eq_false (by omega)
  have hwa := aX hn ht
  obtain ⟨m, hm⟩ : ∃ m, m = n + tail.size := ⟨_, rfl⟩
  rw [← hm] at hwa
  have hm7 : m ≤ 7100 := by omega
  have hwa2 : (n : Int) + (tail.size : Int) = (m : Int) := by omega
  have HWM := hideR (aM7 hm7)
  have HN := hideR hn
  have HT := hideR ht
  have HWL := hideR hWL
  obtain ⟨i0, hi, hz0, hz1, hz2⟩ := info_parts linfo8
  have HZ : Hid (i0.bytes * m ≤ 281474976710656 ∧ m ≤ maxLen) := hideR (by rw [hz2]; exact aZ2 hm7)
  clear hm hWL hn ht hm7
  go_enter Tryd.func5, Tryd.ntmps5
  go_wp2_with (first | (at_make; refine wpList_make_own _ rfl _ _ 34 rfl w.heap.size 5 i0 (.int .u8 0) 1 Tryd.underlying34 hi hz0 hz1 _ _ _ m rfl rfl (by first | exact HWM.out | rfl) HZ.out.1 HZ.out.2 (Nat.le_refl _) ?_; intro w1 hown hgr))
  have HC0 : Hid (CB w (.slice (some ⟨w.heap.size, 0, none⟩) 0 m) 0 w1) := hideR ⟨[], rfl, hown, (Below.refl _ w).grown hgr (Nat.le_refl _) (fun k hk => by cases hk)⟩
  clear hown hgr
  go_wp2_with fail
  go_loopw [5, 6] (fun v x wr => ∃ k : Nat, k ≤ n ∧ x = .int .i64 k ∧ Hid (CB w v k wr)) (fun _ x _ => match x with | .int _ k => n - k.toNat | _ => 0)
  case atStart => exact ⟨0, Nat.zero_le _, rfl, HC0⟩
  case round =>
    clear HC0
    obtain ⟨k, hk, rfl, HC⟩ := hrel
    obtain ⟨bs, hbl, hown, hbel⟩ := HC.out
    have HO := hideR hown
    have HBL := hideR hbel
    obtain ⟨ov, cv, rfl⟩ := own_slice hown
    clear HC
    by_cases hkn : k < n
    · obtain ⟨dl, hwk⟩ := aW hkn HN.out
      have HY : Hid (bs.length + 1 ≤ maxLen ∧ (bs.length + 1) * 1 ≤ 140737488355328) := hideR (aY (by rw [hbl]; exact Nat.le_trans hk HN.out))
      have HS : Hid (w.heap.size ≤ (wr.alloc (.cells #[.int .u8 43] 5)).heap.size) := hideR (by have := hbel.size; simp; omega)
      clear hown hbel
      subst hbl
      go_wp2_with (first | (at_builtin; refine wpList_append_own _ rfl _ _ 34 rfl w.heap.size 5 i0 (.int .u8 0) 1 1 Tryd.underlying34 hi hz0 hz1 hz2 rfl (by decide) _ _ _ rfl (HO.out.alloc _) ⟨wr.heap.size, 0, none⟩ 1 1 [.int .u8 43] rfl rfl (one_new _ _ _) ?c2 HY.out.1 HY.out.2 HS.out ?c6))
      case c2 => simp [Value.oneCell']
      case c6 =>
        intro v' w1 hown' hgrow _
        have HC2 := hideR (CB.app HO.out hown' hgrow HBL.out)
        clear hown' hgrow HO HBL HY HS
        go_wp2
        go_roundw
        case rel => exact ⟨bs.length + 1, hkn, by first | rfl | (congr 1), HC2⟩
        case measure => simp only [hwk]; clear hwa hwa2 hwk dl; simp; omega
    · have dl := aK n k hkn
      obtain ⟨S, hS, hSz⟩ := own_str hown
      have hcat : ¬ 9223372036854775807 < S.size + tail.size := by have := HT.out; have := HN.out; clear hwa hwa2 dl; omega
      clear hSz
      have H1 := hideR (pLex (S ++ tail) wr (HWL.out.on hbel))
      have H2 := fun (u : World) => hideR (rLex (S ++ tail) u)
      have HLn := hideR (lx_len (S ++ tail))
      have HWk := fun (u : World) (hb : Below w.heap.size w u) => hideR (lWakes u (HWL.out.on hb))
      generalize lx (S ++ tail) = R at *
      obtain ⟨L, pl, er⟩ := R
      have k1 : (er == er) = true := by simp
      have k2 : (pl == pl) = true := by simp
      clear hown hbel HO hbl
      go_wp2_with fail
      refine Calls.mono (show Calls _ _ _ _ _ from H1.out) ?_
      rintro e u1 ⟨v1, rfl, hT1, hb1⟩
      have HT1 := hideR hT1
      have HB1 := hideR (below_go HBL.out hb1)
      clear hT1 hb1 H1 HBL
      go_wp2_with fail
      refine Calls.mono (show Calls _ _ _ _ _ from (H2 _).out) ?_
      rintro e u2 ⟨v2, rfl, hT2, hb2⟩
      have HS := hideR (rSame v1 v2 L L true u2 (HT1.out.on hb2) hT2 rfl HLn.out fun i t u h1 h2 => by
        obtain rfl : t = u := by rw [h1] at h2; exact Option.some.inj h2
        exact ⟨rfl, rfl, rfl, fun _ => rfl⟩)
      have HB2 := hideR (below_go HB1.out hb2)
      clear hT2 hb2 HT1 HB1 H2
      go_wp2_with fail
      refine HS.out.mono ?_
      rintro e u3 ⟨rfl, hb3⟩
      have HB3 := hideR (below_go HB2.out hb3)
      clear hb3 HB2 HS
      go_wp2_with fail
      refine (HWk _ HB3.out).out.mono ?_
      rintro e u4 ⟨rfl, hb4⟩
      have HB4 := hideR (below_go HB3.out hb4)
      clear hb4 HB3 HWk
      go_wp2
      go_ret
      exact ⟨rfl, HB4.out⟩
theorem mostC (n : Int) (tail : ByteArray) (w : World) (hWL : WL w) (h0 : -9223372036854775808 ≤ n) (h1 : n ≤ 9223372036854775807) : Calls Tryd.prog 5 #[.int .i64 n, .string tail] w fun e w' => e = .returned (.bool true) ∧ Below w.heap.size w w' := by
  by_cases h : n < 0 ∨ 4100 < n ∨ 3000 < tail.size
  · exact mostW n tail w hWL h
  · obtain ⟨k, rfl⟩ := Int.eq_ofNat_of_zero_le (show 0 ≤ n by omega)
    exact mostG k (by omega) tail (by omega) w hWL
end Go.Proofs.YtppjjbpiefkjlaaDoor
