/- What the functions that put numbers answer: the bytes that the plain mathematics says; nothing that was there before is changed. -/
import Derived.Test.YtloelineidlenaaGreatDoorRows
import Derived.Test.YtloelineidlenaaGreatDoorLMath
import Derived.Test.YtloelineidlenaaGreatDoorLBits
import Derived.WalkKit
import Derived.WalkSpells
import Derived.BigQuiet
import Derived.Deep.QuietTactic
import Derived.Laws.BytesArg
namespace Go.Proofs.YtloelineidlenaaGreatDoor
open Go.RowKit

theorem linfo8 : (Tryz.prog.info? 5).map (fun i => (i.zero, i.size, i.bytes)) = some (some (.int .u8 0), 1, 1) := by kernel_rfl

theorem two_ret {a b : Int} {p q : Bool} (h : a = b) (h' : p = q) : Ending.returned (.tuple #[.int .u8 a, .bool p]) = .returned (.tuple #[.int .u8 b, .bool q]) := by rw [h, h']

/-- What is owned and not empty lies in a row of cells, whose bytes make a string. -/
theorem own_string {w : World} {base : Nat} {v : Value} {n : Nat} {xs : List Int} (h : w.ownsRow base 5 1 v n (xs.map (Value.int .u8))) (hn : 0 < n) :
    ∃ g cap, v = .slice (some ⟨g, 0, none⟩) n cap ∧ (convert 53 9 (.slice (some ⟨g, 0, none⟩) n cap)).run Tryz.prog w = .ok (.string (strOfNums xs)) w := by
  have hl := h.1
  simp only [List.length_map, Nat.mul_one] at hl
  rcases h.2 with ⟨_, h0⟩ | ⟨g, cap, cur, hv, _⟩
  · omega
  · refine ⟨g, cap, hv, ?_⟩
    subst hv
    refine run_convert_bytes_arg w 53 5 Tryz.underlying53 Tryz.underlying5 g 0 n cap xs hl (fun i hi => ?_) 9 Tryz.underlying9
    have := h.cellAt i (by omega)
    rw [Nat.zero_add, this]
    have hi' : i < xs.length := by omega
    simp [List.getElem?_eq_getElem hi', List.getD]

set_option maxHeartbeats 400000 in
theorem c19 (b : Nat) (n : Int) (w : World) (h0 : 0 ≤ n) (h1 : n ≤ 18446744073709551615) (hc : w.cell? ⟨b, 0, none⟩ = some (.int .u64 n)) (hf : w.frozen? ⟨b, 0, none⟩ = false) :
    Calls Tryz.prog 119 #[.pointer (some ⟨b, 0, none⟩)] w fun e w' =>
      e = .returned (.tuple #[.int .u8 (n % 128), .bool (decide (n < 128))]) ∧ ∃ k, w' = (w.setCell ⟨b, 0, none⟩ (.int .u64 (n / 128))).drewN k := by
  have hm := Leb.and127_u64 n h0 h1
  go_enter Tryz.func119, Tryz.ntmps119
  go_wp2
  go_quiet (fail)
  go_wp2
  go_ret2
  refine ⟨two_ret (by omega) ?_, _, rfl⟩
  rw [Bool.eq_iff_iff]; simp; omega

/-- One byte more behind what is owned. -/
theorem app_rel {w wr w1 : World} {base B : Nat} {v v' : Value} {bs : List Int} {x : Int} {o : Obj} (hown : wr.ownsRow base 5 1 v bs.length (bs.map (Value.int .u8)))
    (hown' : w1.ownsRow base 5 1 v' (bs.length + 1) (bs.map (Value.int .u8) ++ [.int .u8 x])) (hgrow : (wr.alloc o).grownBy w1 v.ownBlock) (hbel : Below B w wr) (hB : B ≤ base) (hs : B ≤ wr.heap.size) :
    w1.ownsRow base 5 1 v' (bs ++ [x]).length ((bs ++ [x]).map (Value.int .u8)) ∧ Below B w w1 :=
  ⟨by simpa using hown', (hbel.alloc hs o).grown hgrow (by simp; omega) (fun j hj => by have := (hown.lt j hj).1; omega)⟩

theorem one_new (w : World) (x : Value) (t : TypeId) : ∀ (j : Nat) (u : Value), [x][j]? = some u → (w.alloc (.cells #[x] t)).cell? ((⟨w.heap.size, 0, none⟩ : Addr).add j) = some u := by
  intro j u hj
  match j, hj with
  | 0, hj => simp at hj; subst hj; simp [Addr.add]

set_option maxHeartbeats 1000000 in
set_option maxRecDepth 100000 in
theorem refPutU (n : Int) (w : World) (h0 : 0 ≤ n) (h1 : n ≤ 18446744073709551615) :
    Calls Tryz.prog 124 #[.int .u64 n] w fun e w' => e = .returned (.string (strOfNums (Leb.uB n))) ∧ Below w.heap.size w w' := by
  obtain ⟨i0, hi, hz0, hz1, hz2⟩ := info_parts linfo8
  go_enter Tryz.func124, Tryz.ntmps124
  go_wp2
  go_loopw [0, 3] (fun x v wr => ∃ (m : Int) (bs : List Int), 0 ≤ m ∧ m ≤ 18446744073709551615 ∧ x = .int .u64 m ∧ bs ++ Leb.uB m = Leb.uB n ∧ wr.ownsRow w.heap.size 5 1 v bs.length (bs.map (Value.int .u8)) ∧ Below w.heap.size w wr)
    (fun x _ _ => (intOf x).toNat)
  case atStart => exact ⟨n, [], h0, h1, rfl, rfl, World.ownsRow_nil _ _ _ _, Below.refl _ _⟩
  case round =>
    obtain ⟨m, bs, hm0, hm1, rfl, hbs, hown, hbel⟩ := hrel
    have hlen : bs.length + (Leb.uB m).length ≤ 10 := by rw [← List.length_append, hbs]; exact Leb.uB_ten h0 h1
    have hpos := Leb.uB_pos m
    have HB : Hid (bs ++ Leb.uB m = Leb.uB n) := hbs
    clear hbs
    have hsz := hbel.size
    by_cases hlt : m < 128
    · go_wp2_with (first | (at_builtin; refine wpList_append_own _ rfl _ _ 53 rfl w.heap.size 5 i0 (.int .u8 0) 1 1 Tryz.underlying53 hi hz0 hz1 hz2 rfl (by decide) _ _ _ rfl (hown.alloc _) ⟨wr.heap.size, 0, none⟩ 1 1 [.int .u8 m] rfl rfl (one_new _ _ _) ?c2 ?c3 ?c4 ?c5 ?_))
      case c2 => intro u hu; simp at hu; subst hu; rfl
      case c3 => unfold maxLen; omega
      case c4 => omega
      case c5 => first | omega | (simp; omega)
      intro v' w1 hown' hgrow _
      obtain ⟨ho, hb⟩ := app_rel hown hown' hgrow hbel (Nat.le_refl _) hsz
      have hfin : bs ++ [m] = Leb.uB n := by rw [← HB.out, Leb.uB_small hm0 hlt]
      rw [hfin] at ho
      clear HB hown hown' hgrow hbel hfin
      obtain ⟨g, cap, rfl, hcv⟩ := own_string ho (Leb.uB_pos n)
      clear ho
      go_wp2
      go_ret
      exact ⟨rfl, hb⟩
    · have hor : bits .or .u8 (m % 256) 128 = m % 128 + 128 := by rw [Leb.or128_u8 _ (by omega) (by omega)]; omega
      go_wp2_with (first | (at_builtin; refine wpList_append_own _ rfl _ _ 53 rfl w.heap.size 5 i0 (.int .u8 0) 1 1 Tryz.underlying53 hi hz0 hz1 hz2 rfl (by decide) _ _ _ rfl (hown.alloc _) ⟨wr.heap.size, 0, none⟩ 1 1 [.int .u8 (m % 128 + 128)] rfl rfl (one_new _ _ _) ?d2 ?d3 ?d4 ?d5 ?_))
      case d2 => first | rfl | (intro u hu; simp at hu; subst hu; rfl)
      case d3 => unfold maxLen; omega
      case d4 => omega
      case d5 => first | omega | (simp; omega)
      intro v' w1 hown' hgrow _
      obtain ⟨ho, hb⟩ := app_rel hown hown' hgrow hbel (Nat.le_refl _) hsz
      have hfin : (bs ++ [m % 128 + 128]) ++ Leb.uB (m / 128) = Leb.uB n := by rw [← HB.out, Leb.uB_great (by omega : 128 ≤ m)]; simp
      have HB' : Hid ((bs ++ [m % 128 + 128]) ++ Leb.uB (m / 128) = Leb.uB n) := hfin
      clear HB hown hown' hgrow hbel hfin
      go_wp2
      go_roundw
      case rel => exact ⟨m / 128, bs ++ [m % 128 + 128], by omega, by omega, rfl, HB'.out, ho, hb⟩
      case measure => simp [intOf]; omega

theorem c20 (b : Nat) (n : Int) (w : World) (h0 : -9223372036854775808 ≤ n) (h1 : n ≤ 9223372036854775807) (hc : w.cell? ⟨b, 0, none⟩ = some (.int .i64 n)) (hf : w.frozen? ⟨b, 0, none⟩ = false) :
    Calls Tryz.prog 136 #[.pointer (some ⟨b, 0, none⟩)] w fun e w' =>
      e = .returned (.tuple #[.int .u8 (n % 128), .bool (decide (-64 ≤ n ∧ n ≤ 63))]) ∧ ∃ k, w' = (w.setCell ⟨b, 0, none⟩ (.int .i64 (n / 128))).drewN k := by
  have hm := Leb.and127_i64 n
  have h6 : bits .and .u8 (n % 128 % 256) 64 = if 64 ≤ n % 128 then 64 else 0 := by rw [Leb.and64_u8 _ (by omega) (by omega)]; congr 1; rw [eq_iff_iff]; omega
  have h6' : bits .and .u8 (n % 128) 64 = if 64 ≤ n % 128 then 64 else 0 := by rw [Leb.and64_u8 _ (by omega) (by omega)]; congr 1; rw [eq_iff_iff]; omega
  by_cases h : 64 ≤ n % 128
  · rw [if_pos h] at h6 h6'
    go_enter Tryz.func136, Tryz.ntmps136
    go_wp2
    go_quiet (fail)
    go_wp2
    go_ret2
    refine ⟨two_ret (by omega) ?_, _, rfl⟩
    rw [Bool.eq_iff_iff]; simp; omega
  · rw [if_neg h] at h6 h6'
    go_enter Tryz.func136, Tryz.ntmps136
    go_wp2
    go_quiet (fail)
    go_wp2
    go_ret2
    refine ⟨two_ret (by omega) ?_, _, rfl⟩
    rw [Bool.eq_iff_iff]; simp; omega

set_option maxHeartbeats 1000000 in
set_option maxRecDepth 100000 in
theorem refPutS (n : Int) (w : World) (h0 : -9223372036854775808 ≤ n) (h1 : n ≤ 9223372036854775807) :
    Calls Tryz.prog 133 #[.int .i64 n] w fun e w' => e = .returned (.string (strOfNums (Leb.sB n))) ∧ Below w.heap.size w w' := by
  obtain ⟨i0, hi, hz0, hz1, hz2⟩ := info_parts linfo8
  go_enter Tryz.func133, Tryz.ntmps133
  go_wp2
  go_loopw [0, 3] (fun x v wr => ∃ (m : Int) (bs : List Int), -9223372036854775808 ≤ m ∧ m ≤ 9223372036854775807 ∧ x = .int .i64 m ∧ bs ++ Leb.sB m = Leb.sB n ∧ wr.ownsRow w.heap.size 5 1 v bs.length (bs.map (Value.int .u8)) ∧ Below w.heap.size w wr)
    (fun x _ _ => (intOf x).natAbs)
  case atStart => exact ⟨n, [], h0, h1, rfl, rfl, World.ownsRow_nil _ _ _ _, Below.refl _ _⟩
  case round =>
    obtain ⟨m, bs, hm0, hm1, rfl, hbs, hown, hbel⟩ := hrel
    have hlen : bs.length + (Leb.sB m).length ≤ 10 := by rw [← List.length_append, hbs]; exact Leb.sB_ten h0 h1
    have hpos := Leb.sB_pos m
    have HB : Hid (bs ++ Leb.sB m = Leb.sB n) := hbs
    clear hbs
    have hsz := hbel.size
    by_cases hlt : -64 ≤ m ∧ m ≤ 63
    · have hma : bits .and .u8 (m % 256) 127 = m % 128 := by rw [Leb.and127_u8 _ (by omega) (by omega)]; omega
      have hlt' := hlt
      obtain ⟨ha, hb⟩ := hlt'
      have HL : Hid (-64 ≤ m ∧ m ≤ 63) := hlt
      clear hlt
      go_wp2_with (first | (at_builtin; refine wpList_append_own _ rfl _ _ 53 rfl w.heap.size 5 i0 (.int .u8 0) 1 1 Tryz.underlying53 hi hz0 hz1 hz2 rfl (by decide) _ _ _ rfl (hown.alloc _) ⟨wr.heap.size, 0, none⟩ 1 1 [.int .u8 (m % 128)] rfl rfl (one_new _ _ _) ?c2 ?c3 ?c4 ?c5 ?_))
      case c2 => first | rfl | (intro u hu; simp at hu; subst hu; rfl)
      case c3 => unfold maxLen; omega
      case c4 => omega
      case c5 => first | omega | (simp; omega)
      intro v' w1 hown' hgrow _
      obtain ⟨ho, hb⟩ := app_rel hown hown' hgrow hbel (Nat.le_refl _) hsz
      have hfin : bs ++ [m % 128] = Leb.sB n := by rw [← HB.out, Leb.sB_small HL.out]
      rw [hfin] at ho
      clear HB hown hown' hgrow hbel hfin
      obtain ⟨g, cap, rfl, hcv⟩ := own_string ho (Leb.sB_pos n)
      clear ho
      go_wp2
      go_ret
      exact ⟨rfl, hb⟩
    · have hor : bits .or .u8 (m % 256) 128 = m % 128 + 128 := by rw [Leb.or128_u8 _ (by omega) (by omega)]; omega
      have HL : Hid (¬ (-64 ≤ m ∧ m ≤ 63)) := hlt
      have hway : m < -64 ∨ (-64 ≤ m ∧ 63 < m) := by omega
      clear hlt
      rcases hway with ha | ⟨ha, ha'⟩
      all_goals
        go_wp2_with (first | (at_builtin; refine wpList_append_own _ rfl _ _ 53 rfl w.heap.size 5 i0 (.int .u8 0) 1 1 Tryz.underlying53 hi hz0 hz1 hz2 rfl (by decide) _ _ _ rfl (hown.alloc _) ⟨wr.heap.size, 0, none⟩ 1 1 [.int .u8 (m % 128 + 128)] rfl rfl (one_new _ _ _) (by intro u hu; simp at hu; subst hu; rfl) (by unfold maxLen; omega) (by omega) (by first | omega | (simp; omega)) ?_))
        intro v' w1 hown' hgrow _
        obtain ⟨ho, hb⟩ := app_rel hown hown' hgrow hbel (Nat.le_refl _) hsz
        have hfin : (bs ++ [m % 128 + 128]) ++ Leb.sB (m / 128) = Leb.sB n := by rw [← HB.out, Leb.sB_great HL.out]; simp
        have HB' : Hid ((bs ++ [m % 128 + 128]) ++ Leb.sB (m / 128) = Leb.sB n) := hfin
        clear HB hown hown' hgrow hbel hfin
        go_wp2
        go_roundw
        case rel => exact ⟨m / 128, bs ++ [m % 128 + 128], by omega, by omega, rfl, HB'.out, ho, hb⟩
        case measure => simp [intOf]; omega
end Go.Proofs.YtloelineidlenaaGreatDoor
