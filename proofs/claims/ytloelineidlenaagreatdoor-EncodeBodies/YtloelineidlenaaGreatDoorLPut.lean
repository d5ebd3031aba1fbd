/- What leb.PutU and leb.PutS answer: for every number the bytes that the plain mathematics says; nothing that was there before is changed. -/
import Derived.Test.YtloelineidlenaaGreatDoorLPuts
import Derived.WalkSmall
namespace Go.Proofs.YtloelineidlenaaGreatDoor
open Go.RowKit

def lenOf : Value → Nat | .slice _ n _ => n | _ => 0
theorem lenOf_own {w : World} {base e size : Nat} {v : Value} {n : Nat} {xs : List Value} (h : w.ownsRow base e size v n xs) : lenOf v = n := by
  rcases h.2 with ⟨rfl, rfl⟩ | ⟨g, cap, cur, rfl, _⟩ <;> rfl

theorem c19' (b base : Nat) (m : Int) (q : Bool) (v : Value) (n : Nat) (xs : List Value) (w wr : World) (h0 : 0 ≤ m) (h1 : m ≤ 18446744073709551615) (hq : decide (m < 128) = q)
    (hblk : wr.heap[b]? = some (.cells #[.int .u64 m] 110 (0, 0))) (hown : wr.ownsRow base 5 1 v n xs) (hb : b < base) (hbel : Below b w wr) :
    Calls Tryz.prog 119 #[.pointer (some ⟨b, 0, none⟩)] wr fun e w' =>
      e = .returned (.tuple #[.int .u8 (m % 128), .bool q]) ∧ w'.heap[b]? = some (.cells #[.int .u64 (m / 128)] 110 (0, 0)) ∧ w'.ownsRow base 5 1 v n xs ∧ Below b w w' ∧ wr.heap.size ≤ w'.heap.size := by
  refine (c19 b m wr h0 h1 (cell_of_one hblk) (free_of_one hblk)).mono ?_
  rintro e w' ⟨rfl, k, rfl⟩
  refine ⟨by rw [hq], one_setCell hblk, ownsRow_setCell_below hown hb _, below_drewN (hbel.setCell (Nat.le_refl _) _) k, ?_⟩
  simp [World.setCell]

theorem c20' (b base : Nat) (m : Int) (q : Bool) (v : Value) (n : Nat) (xs : List Value) (w wr : World) (h0 : -9223372036854775808 ≤ m) (h1 : m ≤ 9223372036854775807) (hq : decide (-64 ≤ m ∧ m ≤ 63) = q)
    (hblk : wr.heap[b]? = some (.cells #[.int .i64 m] 2 (0, 0))) (hown : wr.ownsRow base 5 1 v n xs) (hb : b < base) (hbel : Below b w wr) :
    Calls Tryz.prog 136 #[.pointer (some ⟨b, 0, none⟩)] wr fun e w' =>
      e = .returned (.tuple #[.int .u8 (m % 128), .bool q]) ∧ w'.heap[b]? = some (.cells #[.int .i64 (m / 128)] 2 (0, 0)) ∧ w'.ownsRow base 5 1 v n xs ∧ Below b w w' ∧ wr.heap.size ≤ w'.heap.size := by
  refine (c20 b m wr h0 h1 (cell_of_one hblk) (free_of_one hblk)).mono ?_
  rintro e w' ⟨rfl, k, rfl⟩
  refine ⟨by rw [hq], one_setCell hblk, ownsRow_setCell_below hown hb _, below_drewN (hbel.setCell (Nat.le_refl _) _) k, ?_⟩
  simp [World.setCell]

/-- The captured variable's block, behind an append. -/
theorem blk_app {wr w1 : World} {base b n : Nat} {v : Value} {xs : List Value} {o : Obj} {x : Obj} (hown : wr.ownsRow base 5 1 v n xs) (hgrow : (wr.alloc o).grownBy w1 v.ownBlock) (hb : b < base) (hblk : wr.heap[b]? = some x) :
    w1.heap[b]? = some x := by
  have hlt := lt_of_block hblk
  rw [hgrow.block b (by simp; omega) (fun h => by have := hown.lt b h.symm; omega), Below.heap_alloc _ _ _ hlt]
  exact hblk

set_option maxHeartbeats 1000000 in
theorem c18u (b : Nat) (n : Int) (w : World) (h0 : 0 ≤ n) (h1 : n ≤ 18446744073709551615) (hblk0 : w.heap[b]? = some (.cells #[.int .u64 n] 110 (0, 0))) :
    Calls Tryz.prog 118 #[.func (.func 119) #[] #[.pointer (some ⟨b, 0, none⟩)]] w fun e w' => e = .returned (.string (strOfNums (Leb.uB n))) ∧ Below b w w' := by
  obtain ⟨i0, hi, hz0, hz1, hz2⟩ := info_parts linfo8
  have hbs := lt_of_block hblk0
  go_enter Tryz.func118, Tryz.ntmps118
  go_wp2
  go_loopw [3] (fun v wr => ∃ (m : Int) (bs : List Int), 0 ≤ m ∧ m ≤ 18446744073709551615 ∧ bs ++ Leb.uB m = Leb.uB n ∧ wr.heap[b]? = some (.cells #[.int .u64 m] 110 (0, 0)) ∧ wr.ownsRow w.heap.size 5 1 v bs.length (bs.map (Value.int .u8)) ∧ Below b w wr)
    (fun v _ => 10 - lenOf v)
  case atStart => exact ⟨n, [], h0, h1, rfl, hblk0, World.ownsRow_nil _ _ _ _, Below.refl _ _⟩
  case round =>
    obtain ⟨m, bs, hm0, hm1, hbs', hblk, hown, hbel⟩ := hrel
    have hlen : bs.length + (Leb.uB m).length ≤ 10 := by rw [← List.length_append, hbs']; exact Leb.uB_ten h0 h1
    have hpos := Leb.uB_pos m
    have hlo := lenOf_own hown
    have HLO : Hid (lenOf u3 = bs.length) := hlo
    have HB : Hid (bs ++ Leb.uB m = Leb.uB n) := hbs'
    have HK : Hid (w.heap[b]? = some (.cells #[.int .u64 n] 110 (0, 0))) := hblk0
    clear hbs' hblk0 hlo
    have hsz := hbel.size
    by_cases hlt : m < 128
    · go_wp2_with fail
      refine (c19' b w.heap.size m true _ _ _ w wr hm0 hm1 (by simpa using hlt) hblk hown hbs hbel).mono ?_
      rintro e w2 ⟨rfl, hblk2, hown2, hbel2, hsz2⟩
      clear hblk hown hbel hblk2
      go_wp2_with (first | (at_builtin; refine wpList_append_own _ rfl _ _ 53 rfl w.heap.size 5 i0 (.int .u8 0) 1 1 Tryz.underlying53 hi hz0 hz1 hz2 rfl (by decide) _ _ _ rfl (hown2.alloc _) ⟨w2.heap.size, 0, none⟩ 1 1 [.int .u8 (m % 128)] rfl rfl (one_new _ _ _) ?c2 ?c3 ?c4 ?c5 ?_))
      case c2 => first | rfl | (intro u hu; simp at hu; subst hu; rfl)
      case c3 => unfold maxLen; omega
      case c4 => omega
      case c5 => first | omega | (simp; omega)
      intro v' w1 hown' hgrow _
      obtain ⟨ho, hb⟩ := app_rel hown2 hown' hgrow hbel2 (by omega) (by omega)
      have hfin : bs ++ [m % 128] = Leb.uB n := by rw [← HB.out, Leb.uB_small hm0 hlt]; simp; omega
      rw [hfin] at ho
      clear HB hown2 hown' hgrow hbel2 hfin
      obtain ⟨g, cap, rfl, hcv⟩ := own_string ho (Leb.uB_pos n)
      clear ho
      go_wp2
      go_ret
      exact ⟨rfl, hb⟩
    · have hor : bits .or .u8 (m % 128) 128 = m % 128 + 128 := by rw [Leb.or128_u8 _ (by omega) (by omega)]; omega
      go_wp2_with fail
      refine (c19' b w.heap.size m false _ _ _ w wr hm0 hm1 (by simpa using hlt) hblk hown hbs hbel).mono ?_
      rintro e w2 ⟨rfl, hblk2, hown2, hbel2, hsz2⟩
      clear hblk hown hbel
      have HK2 : Hid (w2.heap[b]? = some (.cells #[.int .u64 (m / 128)] 110 (0, 0))) := hblk2
      clear hblk2
      go_wp2_with (first | (at_builtin; refine wpList_append_own _ rfl _ _ 53 rfl w.heap.size 5 i0 (.int .u8 0) 1 1 Tryz.underlying53 hi hz0 hz1 hz2 rfl (by decide) _ _ _ rfl (hown2.alloc _) ⟨w2.heap.size, 0, none⟩ 1 1 [.int .u8 (m % 128 + 128)] rfl rfl (one_new _ _ _) ?d2 ?d3 ?d4 ?d5 ?_))
      case d2 => first | rfl | (intro u hu; simp at hu; subst hu; rfl)
      case d3 => unfold maxLen; omega
      case d4 => omega
      case d5 => first | omega | (simp; omega)
      intro v' w1 hown' hgrow _
      obtain ⟨ho, hb⟩ := app_rel hown2 hown' hgrow hbel2 (by omega) (by omega)
      have HK1 : Hid (w1.heap[b]? = some (.cells #[.int .u64 (m / 128)] 110 (0, 0))) := blk_app hown2 hgrow hbs HK2.out
      have hfin : (bs ++ [m % 128 + 128]) ++ Leb.uB (m / 128) = Leb.uB n := by rw [← HB.out, Leb.uB_great (by omega : 128 ≤ m)]; simp
      have HB' : Hid ((bs ++ [m % 128 + 128]) ++ Leb.uB (m / 128) = Leb.uB n) := hfin
      have HL' : Hid (lenOf v' = (bs ++ [m % 128 + 128]).length) := lenOf_own ho
      clear HB hown2 hown' hgrow hbel2 hfin HK2
      go_wp2
      go_roundw
      case rel => exact ⟨m / 128, bs ++ [m % 128 + 128], by omega, by omega, HB'.out, HK1.out, ho, hb⟩
      case measure => rw [HL'.out, HLO.out]; simp; omega

set_option maxHeartbeats 1000000 in
theorem c18s (b : Nat) (n : Int) (w : World) (h0 : -9223372036854775808 ≤ n) (h1 : n ≤ 9223372036854775807) (hblk0 : w.heap[b]? = some (.cells #[.int .i64 n] 2 (0, 0))) :
    Calls Tryz.prog 118 #[.func (.func 136) #[] #[.pointer (some ⟨b, 0, none⟩)]] w fun e w' => e = .returned (.string (strOfNums (Leb.sB n))) ∧ Below b w w' := by
  obtain ⟨i0, hi, hz0, hz1, hz2⟩ := info_parts linfo8
  have hbs := lt_of_block hblk0
  go_enter Tryz.func118, Tryz.ntmps118
  go_wp2
  go_loopw [3] (fun v wr => ∃ (m : Int) (bs : List Int), -9223372036854775808 ≤ m ∧ m ≤ 9223372036854775807 ∧ bs ++ Leb.sB m = Leb.sB n ∧ wr.heap[b]? = some (.cells #[.int .i64 m] 2 (0, 0)) ∧ wr.ownsRow w.heap.size 5 1 v bs.length (bs.map (Value.int .u8)) ∧ Below b w wr)
    (fun v _ => 10 - lenOf v)
  case atStart => exact ⟨n, [], h0, h1, rfl, hblk0, World.ownsRow_nil _ _ _ _, Below.refl _ _⟩
  case round =>
    obtain ⟨m, bs, hm0, hm1, hbs', hblk, hown, hbel⟩ := hrel
    have hlen : bs.length + (Leb.sB m).length ≤ 10 := by rw [← List.length_append, hbs']; exact Leb.sB_ten h0 h1
    have hpos := Leb.sB_pos m
    have hlo := lenOf_own hown
    have HLO : Hid (lenOf u3 = bs.length) := hlo
    have HB : Hid (bs ++ Leb.sB m = Leb.sB n) := hbs'
    have HK : Hid (w.heap[b]? = some (.cells #[.int .i64 n] 2 (0, 0))) := hblk0
    clear hbs' hblk0 hlo
    have hsz := hbel.size
    by_cases hlt : -64 ≤ m ∧ m ≤ 63
    · have HL : Hid (-64 ≤ m ∧ m ≤ 63) := hlt
      clear hlt
      go_wp2_with fail
      refine (c20' b w.heap.size m true _ _ _ w wr hm0 hm1 (by simpa using HL.out) hblk hown hbs hbel).mono ?_
      rintro e w2 ⟨rfl, hblk2, hown2, hbel2, hsz2⟩
      clear hblk hown hbel hblk2
      go_wp2_with (first | (at_builtin; refine wpList_append_own _ rfl _ _ 53 rfl w.heap.size 5 i0 (.int .u8 0) 1 1 Tryz.underlying53 hi hz0 hz1 hz2 rfl (by decide) _ _ _ rfl (hown2.alloc _) ⟨w2.heap.size, 0, none⟩ 1 1 [.int .u8 (m % 128)] rfl rfl (one_new _ _ _) ?c2 ?c3 ?c4 ?c5 ?_))
      case c2 => first | rfl | (intro u hu; simp at hu; subst hu; rfl)
      case c3 => unfold maxLen; omega
      case c4 => omega
      case c5 => first | omega | (simp; omega)
      intro v' w1 hown' hgrow _
      obtain ⟨ho, hb⟩ := app_rel hown2 hown' hgrow hbel2 (by omega) (by omega)
      have hfin : bs ++ [m % 128] = Leb.sB n := by rw [← HB.out, Leb.sB_small HL.out]
      rw [hfin] at ho
      clear HB hown2 hown' hgrow hbel2 hfin
      obtain ⟨g, cap, rfl, hcv⟩ := own_string ho (Leb.sB_pos n)
      clear ho
      go_wp2
      go_ret
      exact ⟨rfl, hb⟩
    · have hor : bits .or .u8 (m % 128) 128 = m % 128 + 128 := by rw [Leb.or128_u8 _ (by omega) (by omega)]; omega
      have HL : Hid (¬ (-64 ≤ m ∧ m ≤ 63)) := hlt
      clear hlt
      go_wp2_with fail
      refine (c20' b w.heap.size m false _ _ _ w wr hm0 hm1 (decide_eq_false HL.out) hblk hown hbs hbel).mono ?_
      rintro e w2 ⟨rfl, hblk2, hown2, hbel2, hsz2⟩
      clear hblk hown hbel
      have HK2 : Hid (w2.heap[b]? = some (.cells #[.int .i64 (m / 128)] 2 (0, 0))) := hblk2
      clear hblk2
      go_wp2_with (first | (at_builtin; refine wpList_append_own _ rfl _ _ 53 rfl w.heap.size 5 i0 (.int .u8 0) 1 1 Tryz.underlying53 hi hz0 hz1 hz2 rfl (by decide) _ _ _ rfl (hown2.alloc _) ⟨w2.heap.size, 0, none⟩ 1 1 [.int .u8 (m % 128 + 128)] rfl rfl (one_new _ _ _) ?d2 ?d3 ?d4 ?d5 ?_))
      case d2 => first | rfl | (intro u hu; simp at hu; subst hu; rfl)
      case d3 => unfold maxLen; omega
      case d4 => omega
      case d5 => first | omega | (simp; omega)
      intro v' w1 hown' hgrow _
      obtain ⟨ho, hb⟩ := app_rel hown2 hown' hgrow hbel2 (by omega) (by omega)
      have HK1 : Hid (w1.heap[b]? = some (.cells #[.int .i64 (m / 128)] 2 (0, 0))) := blk_app hown2 hgrow hbs HK2.out
      have hfin : (bs ++ [m % 128 + 128]) ++ Leb.sB (m / 128) = Leb.sB n := by rw [← HB.out, Leb.sB_great HL.out]; simp
      have HB' : Hid ((bs ++ [m % 128 + 128]) ++ Leb.sB (m / 128) = Leb.sB n) := hfin
      have HL' : Hid (lenOf v' = (bs ++ [m % 128 + 128]).length) := lenOf_own ho
      clear HB hown2 hown' hgrow hbel2 hfin HK2
      go_wp2
      go_roundw
      case rel => exact ⟨m / 128, bs ++ [m % 128 + 128], by omega, by omega, HB'.out, HK1.out, ho, hb⟩
      case measure => rw [HL'.out, HLO.out]; simp; omega

theorem heap_new (w : World) (o : Obj) : (w.alloc o).heap[w.heap.size]? = some o := by
  show (w.heap.push o)[w.heap.size]? = _
  simp

set_option maxHeartbeats 400000 in
theorem lebPutU (n : Int) (w : World) (h0 : 0 ≤ n) (h1 : n ≤ 18446744073709551615) :
    Calls Tryz.prog 93 #[.int .u64 n] w fun e w' => e = .returned (.string (strOfNums (Leb.uB n))) ∧ Below w.heap.size w w' := by
  go_enter Tryz.func93, Tryz.ntmps93
  go_wp2_with fail
  refine (c18u w.heap.size n _ h0 h1 (heap_new _ _)).mono ?_
  rintro e w' ⟨rfl, hb⟩
  go_wp2
  go_ret
  exact ⟨rfl, ((Below.refl _ _).alloc (Nat.le_refl _) _).trans hb⟩

set_option maxHeartbeats 400000 in
theorem lebPutS (n : Int) (w : World) (h0 : -9223372036854775808 ≤ n) (h1 : n ≤ 9223372036854775807) :
    Calls Tryz.prog 131 #[.int .i64 n] w fun e w' => e = .returned (.string (strOfNums (Leb.sB n))) ∧ Below w.heap.size w w' := by
  go_enter Tryz.func131, Tryz.ntmps131
  go_wp2_with fail
  refine (c18s w.heap.size n _ h0 h1 (heap_new _ _)).mono ?_
  rintro e w' ⟨rfl, hb⟩
  go_wp2
  go_ret
  exact ⟨rfl, ((Below.refl _ _).alloc (Nat.le_refl _) _).trans hb⟩
end Go.Proofs.YtloelineidlenaaGreatDoor
