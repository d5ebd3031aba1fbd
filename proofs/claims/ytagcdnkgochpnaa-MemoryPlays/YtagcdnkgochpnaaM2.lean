/- Numbers out of bytes, the lowest first, and back. -/
import Derived.Test.YtagcdnkgochpnaaM1
import Derived.Test.YtagcdnkgochpnaaLBits
namespace Go.Proofs.Ytagcdnkgochpnaa
open Go.RowKit Mm
set_option linter.unusedVariables false
namespace Mm
def le : List Int → Int
  | [] => 0
  | x :: r => x + 256 * le r
def lb : Nat → Int → List Int
  | 0, _ => []
  | k + 1, v => v % 256 :: lb k (v / 256)
theorem lb_len : ∀ (k : Nat) (v : Int), (lb k v).length = k
  | 0, _ => rfl
  | k + 1, v => by simp only [lb, List.length_cons, lb_len k]
theorem lb_bd : ∀ (k : Nat) (v : Int), ∀ x ∈ lb k v, 0 ≤ x ∧ x ≤ 255
  | 0, _, x, h => by simp [lb] at h
  | k + 1, v, x, h => by
    simp only [lb, List.mem_cons] at h
    rcases h with rfl | h
    · omega
    · exact lb_bd k _ x h
theorem lb_get : ∀ (k : Nat) (v : Int) (j : Nat), j < k → (lb k v)[j]? = some (v / 256 ^ j % 256)
  | k + 1, v, 0, _ => by simp [lb]
  | k + 1, v, j + 1, h => by
    simp only [lb, List.getElem?_cons_succ]
    rw [lb_get k (v / 256) j (by omega)]
    rw [Int.pow_succ, Int.mul_comm (256 ^ j) 256, ← Int.ediv_ediv_of_nonneg (by decide)]
theorem lb_snoc : ∀ (k : Nat) (v : Int), lb (k + 1) v = lb k v ++ [v / 256 ^ k % 256]
  | 0, v => by simp [lb]
  | k + 1, v => by
    have h := lb_snoc k (v / 256)
    rw [show lb (k + 1 + 1) v = v % 256 :: lb (k + 1) (v / 256) from rfl, h]
    rw [show lb (k + 1) v = v % 256 :: lb k (v / 256) from rfl]
    rw [Int.pow_succ, Int.mul_comm (256 ^ k) 256, ← Int.ediv_ediv_of_nonneg (by decide)]
    rfl
theorem le_snoc : ∀ (l : List Int) (x : Int), le (l ++ [x]) = le l + 256 ^ l.length * x
  | [], x => by simp [le]
  | y :: r, x => by
    simp only [List.cons_append, le, List.length_cons]
    rw [le_snoc r x, Int.pow_succ, Int.mul_add, Int.mul_comm (256 ^ r.length) 256, Int.mul_assoc, Int.add_assoc]
theorem le_bd : ∀ (l : List Int), (∀ x ∈ l, 0 ≤ x ∧ x ≤ 255) → 0 ≤ le l ∧ le l < 256 ^ l.length
  | [], _ => by simp [le]
  | y :: r, h => by
    have h1 := le_bd r (fun x hx => h x (List.mem_cons_of_mem _ hx))
    have h2 := h y (List.mem_cons_self)
    simp only [le, List.length_cons]
    rw [Int.pow_succ]
    omega
theorem le_lb : ∀ (k : Nat) (v : Int), le (lb k v) = v % 256 ^ k
  | 0, v => by simp [lb, le, Int.emod_one]
  | k + 1, v => by
    simp only [lb, le]
    rw [le_lb k, Int.pow_succ]
    have hp : (0 : Int) < 256 ^ k := Int.pow_pos (by decide)
    have e1 := Int.emod_add_mul_ediv (v / 256) (256 ^ k)
    have e2 := Int.emod_add_mul_ediv v 256
    have b1 := Int.emod_nonneg (v / 256) (by omega : (256 : Int) ^ k ≠ 0)
    have b2 := Int.emod_lt_of_pos (v / 256) hp
    have b3 := Int.emod_nonneg v (by decide : (256 : Int) ≠ 0)
    have b4 := Int.emod_lt_of_pos v (by decide : (0 : Int) < 256)
    generalize (v / 256) % 256 ^ k = a at *
    generalize hq : v / 256 / 256 ^ k = q at *
    generalize v % 256 = d at *
    generalize v / 256 = g at *
    have e3 : v = (d + 256 * a) + (256 ^ k * 256) * q := by
      have : (256 ^ k * 256) * q = 256 * (256 ^ k * q) := by rw [Int.mul_comm (256 ^ k) 256, Int.mul_assoc]
      rw [this]; omega
    rw [e3, Int.add_mul_emod_self_left, Int.emod_eq_of_lt (by omega) (by omega)]
theorem wrap_u64 {y : Int} (h0 : 0 ≤ y) (h1 : y ≤ 18446744073709551615) : IntKind.u64.wrap y = y := by
  show y % 18446744073709551616 = y
  exact Int.emod_eq_of_lt h0 (by omega)
theorem or_step (k : Nat) (hk : k < 8) (x V : Int) (hx : 0 ≤ x ∧ x ≤ 255) (hV : 0 ≤ V ∧ V < 256 ^ k) : bits .or .u64 V (IntKind.u64.wrap (x * 2 ^ (8 * k))) = V + 256 ^ k * x := by
  have hc : k = 0 ∨ k = 1 ∨ k = 2 ∨ k = 3 ∨ k = 4 ∨ k = 5 ∨ k = 6 ∨ k = 7 := by omega
  clear hk
  rcases hc with rfl | rfl | rfl | rfl | rfl | rfl | rfl | rfl
  all_goals (
    simp only [Nat.mul_zero, Nat.mul_one, Nat.reduceMul, Int.reducePow] at hV ⊢
    rw [wrap_u64 (by omega) (by omega)])
  · rw [Leb.or_u64' 0 _ _ (by omega) (by omega) (by omega) (by omega) (by omega) (by omega)]; omega
  · rw [Leb.or_u64' 8 _ _ (by omega) (by omega) (by omega) (by omega) (by omega) (by omega)]; omega
  · rw [Leb.or_u64' 16 _ _ (by omega) (by omega) (by omega) (by omega) (by omega) (by omega)]; omega
  · rw [Leb.or_u64' 24 _ _ (by omega) (by omega) (by omega) (by omega) (by omega) (by omega)]; omega
  · rw [Leb.or_u64' 32 _ _ (by omega) (by omega) (by omega) (by omega) (by omega) (by omega)]; omega
  · rw [Leb.or_u64' 40 _ _ (by omega) (by omega) (by omega) (by omega) (by omega) (by omega)]; omega
  · rw [Leb.or_u64' 48 _ _ (by omega) (by omega) (by omega) (by omega) (by omega) (by omega)]; omega
  · rw [Leb.or_u64' 56 _ _ (by omega) (by omega) (by omega) (by omega) (by omega) (by omega)]; omega
theorem take_on {bs : List Int} {at_ k : Nat} {x : Int} (hx : bs[at_ + k]? = some x) : (bs.drop at_).take (k + 1) = (bs.drop at_).take k ++ [x] := by
  rw [List.take_add_one, List.getElem?_drop, hx]; rfl
theorem le_on {bs : List Int} {at_ k : Nat} {x V : Int} (hbd : ∀ x ∈ bs, 0 ≤ x ∧ x ≤ 255) (hx : bs[at_ + k]? = some x) (hk : k < 8) (hV : V = le ((bs.drop at_).take k)) :
    bits .or .u64 V (IntKind.u64.wrap (x * 2 ^ (8 * k))) = le ((bs.drop at_).take (k + 1)) := by
  have hl : ((bs.drop at_).take k).length = k := by
    have := (List.getElem?_eq_some_iff.1 hx).1
    rw [List.length_take, List.length_drop]; omega
  have hb := le_bd ((bs.drop at_).take k) (fun y hy => hbd y (List.mem_of_mem_drop (List.mem_of_mem_take hy)))
  rw [take_on hx, le_snoc, hl, hV]
  rw [hl] at hb
  exact or_step k hk x _ (hbd x (List.mem_of_getElem? hx)) hb
theorem p256 : ∀ k : Nat, (2 : Int) ^ (8 * k) = 256 ^ k
  | 0 => rfl
  | k + 1 => by rw [Nat.mul_succ, Int.pow_add, p256 k, Int.pow_succ]; rfl
/-- bytes, some of them replaced -/
def put (bs : List Int) (at_ : Nat) (ys : List Int) : List Int := bs.take at_ ++ ys ++ bs.drop (at_ + ys.length)
theorem put_len {bs : List Int} {at_ : Nat} {ys : List Int} (h : at_ + ys.length ≤ bs.length) : (put bs at_ ys).length = bs.length := by
  unfold put; rw [List.length_append, List.length_append, List.length_take, List.length_drop]; omega
theorem put_set {bs : List Int} {at_ k : Nat} {v : Int} (h : at_ + k < bs.length) : (put bs at_ (lb k v)).set (at_ + k) (v / 256 ^ k % 256) = put bs at_ (lb (k + 1) v) := by
  unfold put
  have e1 : (bs.take at_).length = at_ := by rw [List.length_take]; omega
  rw [lb_len, lb_len, lb_snoc, List.set_append_right _ _ (by rw [List.length_append, e1, lb_len]; omega)]
  rw [List.length_append, e1, lb_len, Nat.sub_self]
  rw [show at_ + (k + 1) = at_ + k + 1 by omega]
  rw [List.drop_eq_getElem_cons h, List.set_cons_zero]
  simp
theorem put_nil (bs : List Int) (at_ : Nat) : put bs at_ [] = bs := by unfold put; simp
theorem Mem.setByte {w : World} {b r : Nat} {mo : Int} {pg : Nat} {bs : List Int} (h : Mem w b r mo pg bs) (j : Nat) (y : Int) (hy : 0 ≤ y ∧ y ≤ 255) : Mem (w.setCell ⟨r, j, none⟩ (.int .u8 y)) b r mo pg (bs.set j y) := by
  refine ⟨?_, ?_, ?_, h.le, h.most, h.ne, ?_⟩
  · rw [Below.heap_setCell _ _ _ _ h.ne, List.length_set]; exact h.blk
  · have := heap_setCell_same w r j _ _ (.int .u8 y) h.row
    rw [this]
    congr 2
    unfold bcells
    rw [List.setIfInBounds_toArray, List.map_set]
  · rw [List.length_set]; exact h.len
  · intro x hx
    rcases List.mem_or_eq_of_mem_set hx with hx | rfl
    · exact h.bd x hx
    · exact hy
end Mm
set_option maxHeartbeats 1000000 in
theorem mLoadN {w : World} {b r : Nat} {mo : Int} {pg : Nat} {bs : List Int} (h : Mem w b r mo pg bs) (at_ : Nat) (n : Int) (ha : at_ ≤ 18446744073709551615) (hk : (szd n && fits bs.length at_ n.toNat) = false) :
    Calls Try.prog 16 #[.pointer (some ⟨b, 0, none⟩), .int .u64 at_, .int .i64 n] w fun e w' => e = .returned (.tuple #[.int .u64 0, .bool false]) ∧ w' = w := by
  have HC := hideR (mCutWord h at_ n ha)
  rw [hk] at HC
  clear hk h
  go_enter Try.func16, Try.ntmps16
  go_wp2_with (go_at_call 27; refine HC.out.mono ?_; rintro e w' ⟨⟨v, rfl, o, m, c, rfl, hv⟩, rfl⟩; have HV := hideR hv; clear hv)
  go_ret2
  exact ⟨rfl, rfl⟩
set_option maxHeartbeats 1000000 in
theorem mLoadY {w : World} {b r : Nat} {mo : Int} {pg : Nat} {bs : List Int} (h : Mem w b r mo pg bs) (at_ : Nat) (n : Nat) (hn : n = 1 ∨ n = 2 ∨ n = 4 ∨ n = 8) (hk : fits bs.length at_ n = true) :
    Calls Try.prog 16 #[.pointer (some ⟨b, 0, none⟩), .int .u64 at_, .int .i64 n] w fun e w' => e = .returned (.tuple #[.int .u64 (le ((bs.drop at_).take n)), .bool true]) ∧ w' = w := by
  have hf := of_decide_eq_true hk
  have hL : bs.length ≤ 2097152 := by have := h.len; have := h.pg32; omega
  have hs : szd n = true := by rcases hn with rfl | rfl | rfl | rfl <;> rfl
  have HC := hideR (mCutWord h at_ n (by omega))
  rw [show Int.toNat (n : Int) = n from rfl, hs, hk, Bool.true_and] at HC
  have H := hideR h
  have h8 : n ≤ 8 := by omega
  have hn0 : 0 < n := by omega
  have HF := hideR hf
  clear hs hk h hn hf
  go_enter Try.func16, Try.ntmps16
  go_wp2_with (go_at_call 27; refine HC.out.mono ?_; rintro e w' ⟨⟨v, rfl, o, m, c, rfl, hm, hv⟩, rfl⟩; obtain rfl : m = n := (by simpa using hm); obtain ⟨off, rfl, ho⟩ := hv.1 rfl; rw [ho hn0] at *; clear hv hm HC ho)
  go_loopw [10, 24] (fun v i wr => ∃ k : Nat, k ≤ m ∧ v = .int .u64 (le ((bs.drop at_).take k)) ∧ i = .int .i64 k ∧ wr = w') (fun _ i _ => m - (intOf i).toNat)
  case atStart => exact ⟨0, by omega, rfl, rfl, rfl⟩
  case round =>
    obtain ⟨k, hk, rfl, rfl, rfl⟩ := hrel
    by_cases hgo : k < m
    · obtain ⟨x, hx⟩ : ∃ x, bs[at_ + k]? = some x := ⟨_, List.getElem?_eq_getElem (by have := HF.out; omega)⟩
      have cx := H.out.byte _ _ hx
      have hxb := H.out.bd x (List.mem_of_getElem? hx)
      have HX := hideR hx
      clear hx
      obtain ⟨V, hV⟩ : ∃ V, V = le ((bs.drop at_).take k) := ⟨_, rfl⟩
      rw [← hV]
      have HVV := hideR hV
      clear hV
      go_wp2
      go_roundw
      case rel => exact ⟨k + 1, by omega, by rw [le_on H.out.bd HX.out (by omega) HVV.out], by go_num, trivial⟩
      case measure => simp [intOf]; omega
    · go_wp2
      go_ret2
      obtain rfl : k = m := by omega
      exact ⟨rfl, rfl⟩
set_option maxHeartbeats 1000000 in
theorem mStoreN {w : World} {b r : Nat} {mo : Int} {pg : Nat} {bs : List Int} (h : Mem w b r mo pg bs) (at_ : Nat) (n v : Int) (ha : at_ ≤ 18446744073709551615) (hk : (szd n && fits bs.length at_ n.toNat) = false) :
    Calls Try.prog 14 #[.pointer (some ⟨b, 0, none⟩), .int .u64 at_, .int .i64 n, .int .u64 v] w fun e w' => e = .returned (.bool false) ∧ w' = w := by
  have HC := hideR (mCutWord h at_ n ha)
  rw [hk] at HC
  clear hk h
  go_enter Try.func14, Try.ntmps14
  go_wp2_with (go_at_call 27; refine HC.out.mono ?_; rintro e w' ⟨⟨v, rfl, o, m, c, rfl, hm, hv⟩, rfl⟩; obtain rfl : m = 0 := (by simpa using hm); clear hv hm)
  go_loopw [21] (fun i wr => i = .int .i64 0 ∧ wr = w') (fun _ _ => 0)
  case atStart => exact ⟨rfl, rfl⟩
  case round =>
    obtain ⟨rfl, rfl⟩ := hrel
    go_wp2
    go_ret
    exact ⟨rfl, rfl⟩
set_option maxHeartbeats 1000000 in
theorem mStoreY {w : World} {b r : Nat} {mo : Int} {pg : Nat} {bs : List Int} (h : Mem w b r mo pg bs) (at_ : Nat) (n : Nat) (v : Int) (hv : 0 ≤ v ∧ v ≤ 18446744073709551615) (hn : n = 1 ∨ n = 2 ∨ n = 4 ∨ n = 8) (hk : fits bs.length at_ n = true) :
    Calls Try.prog 14 #[.pointer (some ⟨b, 0, none⟩), .int .u64 at_, .int .i64 n, .int .u64 v] w fun e w' => e = .returned (.bool true) ∧ Mem w' b r mo pg (put bs at_ (lb n v)) ∧ Frm [r] w w' := by
  have hf := of_decide_eq_true hk
  have hL : bs.length ≤ 2097152 := by have := h.len; have := h.pg32; omega
  have hs : szd n = true := by rcases hn with rfl | rfl | rfl | rfl <;> rfl
  have HC := hideR (mCutWord h at_ n (by omega))
  rw [show Int.toNat (n : Int) = n from rfl, hs, hk, Bool.true_and] at HC
  have H := hideR h
  have h8 : n ≤ 8 := by omega
  have hn0 : 0 < n := by omega
  have HF := hideR hf
  clear hs hk h hn hf
  go_enter Try.func14, Try.ntmps14
  go_wp2_with (go_at_call 27; refine HC.out.mono ?_; rintro e w' ⟨⟨v, rfl, o, m, c, rfl, hm, hv⟩, rfl⟩; obtain rfl : m = n := (by simpa using hm); obtain ⟨off, rfl, ho⟩ := hv.1 rfl; rw [ho hn0] at *; clear hv hm HC ho)
  go_loopw [21] (fun i wr => ∃ k : Nat, k ≤ m ∧ i = .int .i64 k ∧ Hid (Mem wr b r mo pg (put bs at_ (lb k v)) ∧ Frm [r] w' wr)) (fun i _ => m - (intOf i).toNat)
  case atStart => exact ⟨0, by omega, rfl, by rw [show lb 0 v = [] from rfl, put_nil]; exact ⟨H.out, Frm.refl _ _⟩⟩
  case round =>
    obtain ⟨k, hk, rfl, HM⟩ := hrel
    by_cases hgo : k < m
    · obtain ⟨x, hx⟩ : ∃ x, (put bs at_ (lb k v))[at_ + k]? = some x := ⟨_, List.getElem?_eq_getElem (by rw [put_len (by rw [lb_len]; have := HF.out; omega)]; have := HF.out; omega)⟩
      have cx := HM.out.1.byte _ _ hx
      have fx := HM.out.1.frzr (at_ + k)
      clear hx
      go_wp2
      have HN : Hid (Mem (wr.setCell ⟨r, at_ + k, none⟩ (.int .u8 (v / 2 ^ (8 * k) % 256))) b r mo pg (put bs at_ (lb (k + 1) v)) ∧ Frm [r] w' (wr.setCell ⟨r, at_ + k, none⟩ (.int .u8 (v / 2 ^ (8 * k) % 256)))) := by
        rw [p256, ← put_set (by have := HF.out; omega)]
        exact ⟨HM.out.1.setByte _ _ (by omega), HM.out.2.trans (Frm.set _ _ _ _)⟩
      go_roundw
      case rel => exact ⟨k + 1, by omega, by go_num, HN⟩
      case measure => simp [intOf]; omega
    · go_wp2
      go_ret
      obtain rfl : k = m := by omega
      exact ⟨rfl, HM.out⟩
end Go.Proofs.Ytagcdnkgochpnaa
