/- The memory's pages, all its bytes, a piece of them. -/
import Derived.Test.YtagcdnkgochpnaaM0
namespace Go.Proofs.Ytagcdnkgochpnaa
open Go.RowKit Mm
set_option linter.unusedVariables false
set_option maxHeartbeats 1000000 in
theorem mPages {w : World} {b r : Nat} {mo : Int} {pg : Nat} {bs : List Int} (h : Mem w b r mo pg bs) :
    Calls Try.prog 17 #[.pointer (some ⟨b, 0, none⟩)] w fun e w' => e = .returned (.int .i64 pg) ∧ w' = w := by
  have c0 := h.cell 0 _ rfl
  have hl := run_call_load (P := Try.prog) Try.func36 (by kernel_rfl) (by kernel_rfl) (by kernel_rfl) .i64 (by kernel_rfl) c0
  clear h
  go_enter Try.func17, Try.ntmps17
  go_wp2
  go_ret
  exact ⟨rfl, rfl⟩
set_option maxHeartbeats 1000000 in
theorem mAll {w : World} {b r : Nat} {mo : Int} {pg : Nat} {bs : List Int} (h : Mem w b r mo pg bs) :
    Calls Try.prog 26 #[.pointer (some ⟨b, 0, none⟩)] w fun e w' => e = .returned (.slice (some ⟨r, 0, none⟩) bs.length bs.length) ∧ w' = w := by
  have H := hideR h
  have c2 := h.cell 2 _ rfl
  have hp := h.pg32
  have hl := h.len
  have h0 : 0 ≤ (pg : Int) * 65536 := by omega
  rw [hl] at c2 ⊢
  have hlen := hideR hl
  clear h hl
  go_enter Try.func26, Try.ntmps26
  go_wp2_with (go_at_call 17; refine (mPages H.out).mono ?_; rintro e w' ⟨rfl, rfl⟩)
  go_wp2
  go_ret
  exact ⟨rfl, rfl⟩
/-- what a cut tells: the piece, or none -/
def fits (L at_ n : Nat) : Bool := decide (at_ ≤ L ∧ n ≤ L - at_)
def Cut (r at_ n : Nat) (ok : Bool) (v : Value) : Prop :=
  ∃ o m c, v = .tuple #[.slice o m c, .bool ok] ∧ m = (if ok = true then n else 0) ∧ (ok = true → ∃ off : Nat, o = some ⟨r, off, none⟩ ∧ (0 < n → off = at_)) ∧ (ok = false → o = none)
set_option maxHeartbeats 1000000 in
theorem mCut {w : World} {b r : Nat} {mo : Int} {pg : Nat} {bs : List Int} (h : Mem w b r mo pg bs) (at_ n : Nat) (ha : at_ ≤ 18446744073709551615) (hn : n ≤ 18446744073709551615) :
    Calls Try.prog 35 #[.pointer (some ⟨b, 0, none⟩), .int .u64 at_, .int .u64 n] w fun e w' => (∃ v, e = .returned v ∧ Cut r at_ n (fits bs.length at_ n) v) ∧ w' = w := by
  have H := hideR h
  have hp := h.pg32
  have hl := h.len
  have hL : bs.length ≤ 2097152 := by omega
  generalize hLe : bs.length = L at *
  have HL := hideR hLe
  clear h hl hp hLe
  by_cases h1 : at_ ≤ L
  · by_cases h2 : n ≤ L - at_
    · have d1 : decide ((at_ : Int) > (L : Int)) = false := decide_eq_false (by omega)
      have d2 : decide ((n : Int) > (L : Int) - at_) = false := decide_eq_false (by omega)
      have hf : fits L at_ n = true := decide_eq_true ⟨h1, h2⟩
      rw [hf]
      go_enter Try.func35, Try.ntmps35
      go_wp2_with (go_at_call 26; refine (mAll H.out).mono ?_; rintro e w' ⟨rfl, rfl⟩; rw [HL.out])
      go_wp2
      · go_ret2
        refine ⟨⟨_, rfl, ?_⟩, rfl⟩
        obtain rfl : n = 0 := by omega
        exact ⟨_, _, _, rfl, rfl, fun _ => ⟨_, rfl, fun hp => absurd hp (by omega)⟩, fun h => nomatch h⟩
      · go_ret2
        refine ⟨⟨_, rfl, ?_⟩, rfl⟩
        exact ⟨_, _, _, rfl, by simp, fun _ => ⟨_, rfl, fun hp => by simp⟩, fun h => nomatch h⟩
    · have d1 : decide ((at_ : Int) > (L : Int)) = false := decide_eq_false (by omega)
      have d2 : decide ((n : Int) > (L : Int) - at_) = true := decide_eq_true (by omega)
      have hf : fits L at_ n = false := decide_eq_false (fun h => h2 h.2)
      rw [hf]
      go_enter Try.func35, Try.ntmps35
      go_wp2_with (go_at_call 26; refine (mAll H.out).mono ?_; rintro e w' ⟨rfl, rfl⟩; rw [HL.out])
      go_wp2
      go_ret2
      exact ⟨⟨_, rfl, _, _, _, rfl, rfl, fun h => (nomatch h), fun _ => rfl⟩, rfl⟩
  · have d1 : decide ((at_ : Int) > (L : Int)) = true := decide_eq_true (by omega)
    have hf : fits L at_ n = false := decide_eq_false (fun h => h1 h.1)
    rw [hf]
    go_enter Try.func35, Try.ntmps35
    go_wp2_with (go_at_call 26; refine (mAll H.out).mono ?_; rintro e w' ⟨rfl, rfl⟩; rw [HL.out])
    go_wp2
    go_ret2
    exact ⟨⟨_, rfl, _, _, _, rfl, rfl, fun h => (nomatch h), fun _ => rfl⟩, rfl⟩
/-- sizes of numbers -/
def szd (n : Int) : Bool := n == 1 || n == 2 || n == 4 || n == 8
theorem szd_of {n : Int} (h : szd n = true) : n = 1 ∨ n = 2 ∨ n = 4 ∨ n = 8 := by
  simp only [szd, Bool.or_eq_true, beq_iff_eq] at h; omega
theorem szd_not {n : Int} (h : szd n = false) : n ≠ 1 ∧ n ≠ 2 ∧ n ≠ 4 ∧ n ≠ 8 := by
  simp only [szd, Bool.or_eq_false_iff, beq_eq_false_iff_ne] at h; omega
set_option maxHeartbeats 1000000 in
theorem mCutWord {w : World} {b r : Nat} {mo : Int} {pg : Nat} {bs : List Int} (h : Mem w b r mo pg bs) (at_ : Nat) (n : Int) (ha : at_ ≤ 18446744073709551615) :
    Calls Try.prog 27 #[.pointer (some ⟨b, 0, none⟩), .int .u64 at_, .int .i64 n] w fun e w' => (∃ v, e = .returned v ∧ Cut r at_ n.toNat (szd n && fits bs.length at_ n.toNat) v) ∧ w' = w := by
  have H := hideR h
  clear h
  by_cases hs : szd n = true
  · rw [hs, Bool.true_and]
    have HS := hideR hs
    have HC := hideR (mCut H.out at_ n.toNat ha (by rcases szd_of hs with rfl | rfl | rfl | rfl <;> decide))
    generalize fits bs.length at_ n.toNat = ok at *
    rcases szd_of hs with rfl | rfl | rfl | rfl
    all_goals (
      clear hs
      go_enter Try.func27, Try.ntmps27
      go_wp2_with (go_at_call 35; refine HC.out.mono ?_; rintro e w' ⟨⟨v, rfl, o, m, c, rfl, hv⟩, rfl⟩; have HV := hideR hv; clear hv)
      go_ret2
      exact ⟨⟨_, rfl, _, _, _, rfl, HV.out⟩, rfl⟩)
  · have hs' : szd n = false := by simpa using hs
    obtain ⟨n1, n2, n4, n8⟩ := szd_not hs'
    rw [hs', Bool.false_and]
    clear hs hs'
    go_enter Try.func27, Try.ntmps27
    go_wp2
    go_ret2
    exact ⟨⟨_, rfl, _, _, _, rfl, rfl, fun h => (nomatch h), fun _ => rfl⟩, rfl⟩
set_option maxHeartbeats 1000000 in
theorem mCutText {w : World} {b r : Nat} {mo : Int} {pg : Nat} {bs : List Int} (h : Mem w b r mo pg bs) (at_ n : Int) (ha : at_ ≤ 9223372036854775807) (hn : n ≤ 9223372036854775807) :
    Calls Try.prog 33 #[.pointer (some ⟨b, 0, none⟩), .int .i64 at_, .int .i64 n] w fun e w' => (∃ v, e = .returned v ∧ Cut r at_.toNat n.toNat (decide (0 ≤ at_ ∧ 0 ≤ n) && fits bs.length at_.toNat n.toNat) v) ∧ w' = w := by
  have H := hideR h
  clear h
  by_cases h1 : 0 ≤ at_
  · by_cases h2 : 0 ≤ n
    · rw [decide_eq_true (show 0 ≤ at_ ∧ 0 ≤ n from ⟨h1, h2⟩), Bool.true_and]
      obtain ⟨p, rfl⟩ := Int.eq_ofNat_of_zero_le h1
      obtain ⟨q, rfl⟩ := Int.eq_ofNat_of_zero_le h2
      have HC := hideR (mCut H.out p q (by omega) (by omega))
      rw [show Int.toNat (p : Int) = p from rfl, show Int.toNat (q : Int) = q from rfl]
      generalize fits bs.length p q = ok at *
      have d1 : decide ((p : Int) < 0) = false := decide_eq_false (by omega)
      have d2 : decide ((q : Int) < 0) = false := decide_eq_false (by omega)
      clear h1 h2
      go_enter Try.func33, Try.ntmps33
      go_wp2_with (go_at_call 35; refine HC.out.mono ?_; rintro e w' ⟨⟨v, rfl, o, m, c, rfl, hv⟩, rfl⟩; have HV := hideR hv; clear hv)
      go_ret2
      exact ⟨⟨_, rfl, _, _, _, rfl, HV.out⟩, rfl⟩
    · rw [decide_eq_false (fun h => h2 h.2), Bool.false_and]
      have d1 : decide (at_ < 0) = false := decide_eq_false (by omega)
      have d2 : decide (n < 0) = true := decide_eq_true (by omega)
      go_enter Try.func33, Try.ntmps33
      go_wp2
      go_ret2
      exact ⟨⟨_, rfl, _, _, _, rfl, rfl, fun h => (nomatch h), fun _ => rfl⟩, rfl⟩
  · rw [decide_eq_false (fun h => h1 h.1), Bool.false_and]
    have d1 : decide (at_ < 0) = true := decide_eq_true (by omega)
    go_enter Try.func33, Try.ntmps33
    go_wp2
    go_ret2
    exact ⟨⟨_, rfl, _, _, _, rfl, rfl, fun h => (nomatch h), fun _ => rfl⟩, rfl⟩
end Go.Proofs.Ytagcdnkgochpnaa
