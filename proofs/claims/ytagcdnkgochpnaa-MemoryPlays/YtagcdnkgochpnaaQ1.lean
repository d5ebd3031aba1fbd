/- The document's loads and stores. -/
import Derived.Test.YtagcdnkgochpnaaQ0
namespace Go.Proofs.Ytagcdnkgochpnaa
open Go.RowKit Mm
set_option linter.unusedVariables false
namespace Mm
theorem le_cons_take {bs : List Int} {at_ k n : Nat} {x : Int} (hx : bs[at_ + k]? = some x) (hk : k < n) : ((bs.drop (at_ + k)).take (n - k)) = x :: ((bs.drop (at_ + (k + 1))).take (n - (k + 1))) := by
  have hl : at_ + k < bs.length := (List.getElem?_eq_some_iff.1 hx).1
  have he := (List.getElem?_eq_some_iff.1 hx).2
  rw [List.drop_eq_getElem_cons hl, he, show n - k = (n - (k + 1)) + 1 by omega, List.take_succ_cons]
  rfl
/-- one byte more, from the upper ones down -/
theorem le_down {bs : List Int} {at_ k n : Nat} {x V : Int} (hbd : ∀ x ∈ bs, 0 ≤ x ∧ x ≤ 255) (hx : bs[at_ + k]? = some x) (hk : k < n) (hn : n ≤ 8) (hV : V = le ((bs.drop (at_ + (k + 1))).take (n - (k + 1)))) :
    bits .or .u64 (IntKind.u64.wrap (V * 256)) x = le ((bs.drop (at_ + k)).take (n - k)) := by
  have hb := le_bd ((bs.drop (at_ + (k + 1))).take (n - (k + 1))) (fun y hy => hbd y (List.mem_of_mem_drop (List.mem_of_mem_take hy)))
  have hl : ((bs.drop (at_ + (k + 1))).take (n - (k + 1))).length ≤ 7 := by rw [List.length_take]; omega
  have hp : (256 : Int) ^ ((bs.drop (at_ + (k + 1))).take (n - (k + 1))).length ≤ 256 ^ 7 := by
    have h1 := Nat.pow_le_pow_right (n := 256) (by decide) hl
    have e : ∀ m : Nat, (256 : Int) ^ m = ((256 ^ m : Nat) : Int) := fun m => (Int.natCast_pow 256 m).symm
    rw [e, e]
    exact Int.ofNat_le.2 h1
  have hxb := hbd x (List.mem_of_getElem? hx)
  rw [← hV] at hb
  have hV7 : V < 72057594037927936 := by
    have : (256 : Int) ^ 7 = 72057594037927936 := rfl
    omega
  rw [le_cons_take hx hk, wrap_u64 (by omega) (by omega), Leb.or_u64 8 _ _ (by omega) (by omega) (by omega) (by omega) (by omega) (by omega), hV]
  simp only [le]
  omega
end Mm
set_option maxHeartbeats 1000000 in
theorem qLoadN {w : World} {b r : Nat} {mo : Int} {pg : Nat} {bs : List Int} {ex : List Value} (h : RM w b r mo pg bs ex) (at_ : Nat) (n : Int) (ha : at_ ≤ 18446744073709551615) (hn : n ≤ 9223372036854775807) (hk : (szd n && fits bs.length at_ n.toNat) = false) :
    Calls Try.prog 11 #[.pointer (some ⟨b, 0, none⟩), .int .u64 at_, .int .i64 n] w fun e w' => e = .returned (.tuple #[.int .u64 0, .bool false]) ∧ w' = w := by
  have HZ := hideR (qSized w n)
  by_cases hs : szd n = true
  · rw [hs, Bool.true_and] at hk
    obtain ⟨k, rfl⟩ : ∃ k : Nat, n = (k : Int) := ⟨n.toNat, by have := szd_of hs; omega⟩
    have HT := hideR (qThere h at_ k ha (by omega))
    rw [show Int.toNat (k : Int) = k from rfl] at hk
    rw [hk] at HT
    rw [hs] at HZ
    clear hs hk h
    go_enter Try.func11, Try.ntmps11
    go_wp2_with (first | (go_at_call 24; refine HZ.out.mono ?_; rintro e w' ⟨rfl, rfl⟩) | (go_at_call 25; refine HT.out.mono ?_; rintro e w' ⟨rfl, rfl⟩))
    go_ret2
    exact ⟨rfl, rfl⟩
  · have hs' : szd n = false := by simpa using hs
    rw [hs'] at HZ
    clear hs hs' hk h
    go_enter Try.func11, Try.ntmps11
    go_wp2_with (first | (go_at_call 24; refine HZ.out.mono ?_; rintro e w' ⟨rfl, rfl⟩))
    go_ret2
    exact ⟨rfl, rfl⟩
set_option maxHeartbeats 1000000 in
theorem qLoadY {w : World} {b r : Nat} {mo : Int} {pg : Nat} {bs : List Int} {ex : List Value} (h : RM w b r mo pg bs ex) (at_ : Nat) (n : Nat) (hn : n = 1 ∨ n = 2 ∨ n = 4 ∨ n = 8) (hk : fits bs.length at_ n = true) :
    Calls Try.prog 11 #[.pointer (some ⟨b, 0, none⟩), .int .u64 at_, .int .i64 n] w fun e w' => e = .returned (.tuple #[.int .u64 (le ((bs.drop at_).take n)), .bool true]) ∧ w' = w := by
  have hf := of_decide_eq_true hk
  have hL : bs.length ≤ 2097152 := by have := h.len; have := h.pg32; omega
  have hs : szd n = true := by rcases hn with rfl | rfl | rfl | rfl <;> rfl
  have HZ := hideR (qSized w n)
  have HT := hideR (qThere h at_ n (by omega) (by omega))
  rw [hk] at HT
  rw [hs] at HZ
  have c0 := h.cell 0 _ rfl
  have H := hideR h
  have h8 : n ≤ 8 := by omega
  have hn0 : 0 < n := by omega
  have HF := hideR hf
  obtain ⟨L, hLL⟩ : ∃ L, L = bs.length := ⟨_, rfl⟩
  rw [← hLL] at c0
  have hfa : at_ + n ≤ L := by omega
  have HLL := hideR hLL
  rw [← hLL] at hL
  clear hs hk h hn hf hLL
  go_enter Try.func11, Try.ntmps11
  go_wp2_with (first | (go_at_call 24; refine HZ.out.mono ?_; rintro e w' ⟨rfl, rfl⟩) | (go_at_call 25; refine HT.out.mono ?_; rintro e w' ⟨rfl, rfl⟩))
  go_loopw [8, 9] (fun v i wr => ∃ k : Nat, k ≤ n ∧ v = .int .u64 (le ((bs.drop (at_ + k)).take (n - k))) ∧ i = .int .i64 ((k : Int) - 1) ∧ wr = w') (fun _ i _ => (intOf i + 1).toNat)
  case atStart => exact ⟨n, by omega, by rw [Nat.sub_self, List.take_zero]; rfl, by go_num, rfl⟩
  case round =>
    obtain ⟨k, hk, rfl, rfl, rfl⟩ := hrel
    cases k with
    | zero =>
      go_wp2
      go_ret2
      exact ⟨rfl, rfl⟩
    | succ k =>
      obtain ⟨x, hx⟩ : ∃ x, bs[at_ + k]? = some x := ⟨_, List.getElem?_eq_getElem (by have := HF.out; omega)⟩
      have cx := H.out.byte _ _ hx
      have hxb := H.out.bd x (List.mem_of_getElem? hx)
      have HX := hideR hx
      clear hx
      obtain ⟨V, hV⟩ : ∃ V, V = le ((bs.drop (at_ + (k + 1))).take (n - (k + 1))) := ⟨_, rfl⟩
      rw [← hV, show ((k + 1 : Nat) : Int) - 1 = (k : Int) by omega]
      have HVV := hideR hV
      clear hV
      go_wp2
      go_roundw
      case rel => exact ⟨k, by omega, by rw [le_down H.out.bd HX.out (by omega) h8 HVV.out], by go_num, trivial⟩
      case measure => simp [intOf]
set_option maxHeartbeats 1000000 in
theorem qStoreN {w : World} {b r : Nat} {mo : Int} {pg : Nat} {bs : List Int} {ex : List Value} (h : RM w b r mo pg bs ex) (at_ : Nat) (n v : Int) (ha : at_ ≤ 18446744073709551615) (hn : n ≤ 9223372036854775807) (hk : (szd n && fits bs.length at_ n.toNat) = false) :
    Calls Try.prog 15 #[.pointer (some ⟨b, 0, none⟩), .int .u64 at_, .int .i64 n, .int .u64 v] w fun e w' => e = .returned (.bool false) ∧ w' = w := by
  have HZ := hideR (qSized w n)
  by_cases hs : szd n = true
  · rw [hs, Bool.true_and] at hk
    obtain ⟨k, rfl⟩ : ∃ k : Nat, n = (k : Int) := ⟨n.toNat, by have := szd_of hs; omega⟩
    have HT := hideR (qThere h at_ k ha (by omega))
    rw [show Int.toNat (k : Int) = k from rfl] at hk
    rw [hk] at HT
    rw [hs] at HZ
    clear hs hk h
    go_enter Try.func15, Try.ntmps15
    go_wp2_with (first | (go_at_call 24; refine HZ.out.mono ?_; rintro e w' ⟨rfl, rfl⟩) | (go_at_call 25; refine HT.out.mono ?_; rintro e w' ⟨rfl, rfl⟩))
    go_ret
    exact ⟨rfl, rfl⟩
  · have hs' : szd n = false := by simpa using hs
    rw [hs'] at HZ
    clear hs hs' hk h
    go_enter Try.func15, Try.ntmps15
    go_wp2_with (first | (go_at_call 24; refine HZ.out.mono ?_; rintro e w' ⟨rfl, rfl⟩))
    go_ret
    exact ⟨rfl, rfl⟩
set_option maxHeartbeats 1000000 in
theorem qStoreY {w : World} {b r : Nat} {mo : Int} {pg : Nat} {bs : List Int} {ex : List Value} (h : RM w b r mo pg bs ex) (at_ : Nat) (n : Nat) (v : Int) (hv : 0 ≤ v ∧ v ≤ 18446744073709551615) (hn : n = 1 ∨ n = 2 ∨ n = 4 ∨ n = 8) (hk : fits bs.length at_ n = true) :
    Calls Try.prog 15 #[.pointer (some ⟨b, 0, none⟩), .int .u64 at_, .int .i64 n, .int .u64 v] w fun e w' => e = .returned (.bool true) ∧ RM w' b r mo pg (put bs at_ (lb n v)) ex ∧ Frm [r] w w' := by
  have hf := of_decide_eq_true hk
  have hL : bs.length ≤ 2097152 := by have := h.len; have := h.pg32; omega
  have hs : szd n = true := by rcases hn with rfl | rfl | rfl | rfl <;> rfl
  have HZ := hideR (qSized w n)
  have HT := hideR (qThere h at_ n (by omega) (by omega))
  rw [hk] at HT
  rw [hs] at HZ
  have H := hideR h
  have h8 : n ≤ 8 := by omega
  have hn0 : 0 < n := by omega
  have HF := hideR hf
  have hfa : at_ + n ≤ 2097152 := by omega
  clear hs hk h hn hf
  go_enter Try.func15, Try.ntmps15
  go_wp2_with (first | (go_at_call 24; refine HZ.out.mono ?_; rintro e w' ⟨rfl, rfl⟩) | (go_at_call 25; refine HT.out.mono ?_; rintro e w' ⟨rfl, rfl⟩))
  go_loopw [9] (fun i wr => ∃ k : Nat, k ≤ n ∧ i = .int .i64 k ∧ Hid (RM wr b r mo pg (put bs at_ (lb k v)) ex ∧ Frm [r] w' wr)) (fun i _ => n - (intOf i).toNat)
  case atStart => exact ⟨0, by omega, rfl, by rw [show lb 0 v = [] from rfl, put_nil]; exact ⟨H.out, Frm.refl _ _⟩⟩
  case round =>
    obtain ⟨k, hk, rfl, HM⟩ := hrel
    by_cases hgo : k < n
    · have hpl : (put bs at_ (lb k v)).length = bs.length := put_len (by rw [lb_len]; have := HF.out; omega)
      obtain ⟨x, hx⟩ : ∃ x, (put bs at_ (lb k v))[at_ + k]? = some x := ⟨_, List.getElem?_eq_getElem (by rw [hpl]; have := HF.out; omega)⟩
      have cx := HM.out.1.byte _ _ hx
      have fx := HM.out.1.frzr (at_ + k)
      have c0 := HM.out.1.cell 0 _ rfl
      rw [hpl] at c0
      have hlt : at_ + k < bs.length := by have := HF.out; omega
      have HPL := hideR hpl
      clear hx hpl
      go_wp2
      have HN : Hid (RM (wr.setCell ⟨r, at_ + k, none⟩ (.int .u8 (v / 2 ^ (8 * k) % 256))) b r mo pg (put bs at_ (lb (k + 1) v)) ex ∧ Frm [r] w' (wr.setCell ⟨r, at_ + k, none⟩ (.int .u8 (v / 2 ^ (8 * k) % 256)))) := by
        rw [p256, ← put_set hlt]
        exact ⟨HM.out.1.setByte _ (by rw [HPL.out]; exact hlt) _ (by omega), HM.out.2.trans (Frm.set _ _ _ _)⟩
      go_roundw
      case rel => exact ⟨k + 1, by omega, by go_num, HN⟩
      case measure => simp [intOf]; omega
    · go_wp2
      go_ret
      obtain rfl : k = n := by omega
      exact ⟨rfl, HM.out⟩
end Go.Proofs.Ytagcdnkgochpnaa
