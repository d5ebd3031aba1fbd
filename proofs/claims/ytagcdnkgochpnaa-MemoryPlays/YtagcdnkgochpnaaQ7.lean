/- One call of both: stores, fills, loads, texts. -/
import Derived.Test.YtagcdnkgochpnaaQ6
namespace Go.Proofs.Ytagcdnkgochpnaa
open Go.RowKit Mm
set_option linter.unusedVariables false
namespace Mm
/-- both rows written alike -/
theorem PS.wrote {w0 w w1 w1' w2 : World} {k b r c s : Nat} {mo : Int} {pg : Nat} {bs bs' : List Int} {ex : List Value} (h0 : Below w0.heap.size w0 w) (h2 : PS w0 k w b r c s mo pg bs ex) (hm : Mem w1 b r mo pg bs') (hf : Frm [r] w w1) (hb : Below w1.heap.size w1 w1')
    (hq : RM w2 c s mo pg bs' ex) (hf' : Frm [s] w1' w2) : Pair w0 k (.pointer (some ⟨b, 0, none⟩)) (.pointer (some ⟨c, 0, none⟩)) w2 := by
  have hB1 : Below w0.heap.size w0 w1 := hf.below h0 (by intro j hj; rw [List.mem_singleton.1 hj]; exact h2.gr)
  have hB2 : Below w0.heap.size w0 w2 := hf'.below (bel_on hB1 hb) (by intro j hj; rw [List.mem_singleton.1 hj]; exact h2.gs)
  exact ⟨hB2, .inr ⟨b, r, c, s, mo, pg, bs', ex, rfl, rfl, ⟨(hm.on0 hb).on hf' (not1 h2.bs_) (not1 h2.rs), hq, h2.bc, h2.bs_, h2.rc, h2.rs, h2.kb, h2.kr, h2.kc, h2.ks, h2.gb, h2.gr, h2.gc, h2.gs⟩⟩⟩
theorem PS.q1 {w0 w w1 w1' : World} {k b r c s : Nat} {mo : Int} {pg : Nat} {bs : List Int} {ex : List Value} (h2 : PS w0 k w b r c s mo pg bs ex) (hf : Frm [r] w w1) (hb : Below w1.heap.size w1 w1') : RM w1' c s mo pg bs ex :=
  (h2.q.on hf (not1 (Ne.symm h2.rc)) (not1 (Ne.symm h2.rs))).on0 hb
end Mm
theorem half_store {w0 w : World} {k : Nat} {mv qv : Value} (h : Pair w0 k mv qv w) (hk : k < w.heap.size) (at_ : Nat) (n v : Int) (ha : at_ ≤ 18446744073709551615) (hn : n ≤ 9223372036854775807) (hv : 0 ≤ v ∧ v ≤ 18446744073709551615) :
    ∃ x R, R w ∧ HalfC w0 k mv qv 14 15 #[mv, .int .u64 at_, .int .i64 n, .int .u64 v] #[qv, .int .u64 at_, .int .i64 n, .int .u64 v] (fun g : Bool => .bool g) x R := by
  refine halfC_of h (ar1 := fun v' => #[v', .int .u64 at_, .int .i64 n, .int .u64 v]) (ar2 := fun v' => #[v', .int .u64 at_, .int .i64 n, .int .u64 v]) ?_ (fun _ r => r) (fun _ _ => .inr rfl) ?_ hk
  · intro w h
    refine (nStore w at_ n v ha).mono ?_
    rintro e w1 ⟨rfl, rfl⟩
    refine ⟨_, rfl, rfl, fun w1' hb => (zStore w1' at_ n v ha hn).mono ?_⟩
    rintro e w2 ⟨rfl, rfl⟩
    exact ⟨rfl, h.on0 hb⟩
  · intro w b r c s mo pg bs ex h1 h2 hk
    have h : Pair w0 k (.pointer (some ⟨b, 0, none⟩)) (.pointer (some ⟨c, 0, none⟩)) w := ⟨h1, .inr ⟨b, r, c, s, mo, pg, bs, ex, rfl, rfl, h2⟩⟩
    cases hc : (szd n && fits bs.length at_ n.toNat) with
    | false =>
      refine (mStoreN h2.m at_ n v ha hc).mono ?_
      rintro e w1 ⟨rfl, rfl⟩
      refine ⟨_, rfl, Frm.refl _ _, fun w1' hb => (qStoreN (h2.on0 hb).q at_ n v ha hn hc).mono ?_⟩
      rintro e w2 ⟨rfl, rfl⟩
      exact ⟨rfl, h.on0 hb⟩
    | true =>
      rw [Bool.and_eq_true] at hc
      obtain ⟨m, rfl⟩ : ∃ m : Nat, n = (m : Int) := ⟨n.toNat, by have := szd_of hc.1; omega⟩
      have hm : m = 1 ∨ m = 2 ∨ m = 4 ∨ m = 8 := by have := szd_of hc.1; omega
      have hc2 : fits bs.length at_ m = true := hc.2
      refine (mStoreY h2.m at_ m v hv hm hc2).mono ?_
      rintro e w1 ⟨rfl, hm1, hf⟩
      refine ⟨_, rfl, hf, fun w1' hb => (qStoreY (h2.q1 hf hb) at_ m v hv hm hc2).mono ?_⟩
      rintro e w2 ⟨rfl, hq2, hf2⟩
      exact ⟨rfl, h2.wrote h.1 hm1 hf hb hq2 hf2⟩
theorem half_fill {w0 w : World} {k : Nat} {mv qv : Value} (h : Pair w0 k mv qv w) (hk : k < w.heap.size) (at_ : Int) (t : ByteArray) (ha : at_ ≤ 9223372036854775807) (hn : t.size ≤ 9223372036854775807) :
    ∃ x R, R w ∧ HalfC w0 k mv qv 31 32 #[mv, .int .i64 at_, .string t] #[qv, .int .i64 at_, .string t] (fun g : Bool => .bool g) x R := by
  refine halfC_of h (ar1 := fun v' => #[v', .int .i64 at_, .string t]) (ar2 := fun v' => #[v', .int .i64 at_, .string t]) ?_ (fun _ r => r) (fun _ _ => .inr rfl) ?_ hk
  · intro w h
    refine (nFill w at_ t ha hn).mono ?_
    rintro e w1 ⟨rfl, rfl⟩
    refine ⟨_, rfl, rfl, fun w1' hb => (zFill w1' at_ t ha hn).mono ?_⟩
    rintro e w2 ⟨rfl, rfl⟩
    exact ⟨rfl, h.on0 hb⟩
  · intro w b r c s mo pg bs ex h1 h2 hk
    have h : Pair w0 k (.pointer (some ⟨b, 0, none⟩)) (.pointer (some ⟨c, 0, none⟩)) w := ⟨h1, .inr ⟨b, r, c, s, mo, pg, bs, ex, rfl, rfl, h2⟩⟩
    cases hc : (decide (0 ≤ at_) && fits bs.length at_.toNat t.size) with
    | false =>
      refine (mFillN h2.m at_ t ha hn hc).mono ?_
      rintro e w1 ⟨rfl, rfl⟩
      refine ⟨_, rfl, Frm.refl _ _, fun w1' hb => (qFillN (h2.on0 hb).q at_ t ha hn hc).mono ?_⟩
      rintro e w2 ⟨rfl, rfl⟩
      exact ⟨rfl, h.on0 hb⟩
    | true =>
      rw [Bool.and_eq_true] at hc
      obtain ⟨p, rfl⟩ := Int.eq_ofNat_of_zero_le (of_decide_eq_true hc.1)
      have hc2 : fits bs.length p t.size = true := hc.2
      refine (mFillY h2.m p t hc2).mono ?_
      rintro e w1 ⟨rfl, hm1, hf⟩
      refine ⟨_, rfl, hf, fun w1' hb => (qFillY (h2.q1 hf hb) p t hc2).mono ?_⟩
      rintro e w2 ⟨rfl, hq2, hf2⟩
      exact ⟨rfl, h2.wrote h.1 hm1 hf hb hq2 hf2⟩
/-- both loads tell the same, and change nothing -/
theorem both_load {w0 w : World} {k : Nat} {mv qv : Value} (h : Pair w0 k mv qv w) (at_ : Nat) (n : Int) (ha : at_ ≤ 18446744073709551615) (hn : n ≤ 9223372036854775807) :
    ∃ (x : Int) (ok : Bool), (Calls Try.prog 16 #[mv, .int .u64 at_, .int .i64 n] w fun e w1 => e = .returned (.tuple #[.int .u64 x, .bool ok]) ∧ w1 = w) ∧
      Calls Try.prog 11 #[qv, .int .u64 at_, .int .i64 n] w fun e w1 => e = .returned (.tuple #[.int .u64 x, .bool ok]) ∧ w1 = w := by
  rcases h.2 with ⟨rfl, rfl⟩ | ⟨b, r, c, s, mo, pg, bs, ex, rfl, rfl, h2⟩
  · exact ⟨0, false, nLoad w at_ n ha, zLoad w at_ n 0 ha hn⟩
  · cases hc : (szd n && fits bs.length at_ n.toNat) with
    | false => exact ⟨0, false, mLoadN h2.m at_ n ha hc, qLoadN h2.q at_ n ha hn hc⟩
    | true =>
      rw [Bool.and_eq_true] at hc
      obtain ⟨m, rfl⟩ : ∃ m : Nat, n = (m : Int) := ⟨n.toNat, by have := szd_of hc.1; omega⟩
      have hm : m = 1 ∨ m = 2 ∨ m = 4 ∨ m = 8 := by have := szd_of hc.1; omega
      exact ⟨_, true, mLoadY h2.m at_ m hm hc.2, qLoadY h2.q at_ m hm hc.2⟩
theorem both_text {w0 w : World} {k : Nat} {mv qv : Value} (h : Pair w0 k mv qv w) (at_ n : Int) (ha : at_ ≤ 9223372036854775807) (hn : n ≤ 9223372036854775807) :
    ∃ (x : ByteArray) (ok : Bool), (Calls Try.prog 20 #[mv, .int .i64 at_, .int .i64 n] w fun e w1 => e = .returned (.tuple #[.string x, .bool ok]) ∧ w1 = w) ∧
      Calls Try.prog 30 #[qv, .int .i64 at_, .int .i64 n] w fun e w1 => e = .returned (.tuple #[.string x, .bool ok]) ∧ w1 = w := by
  rcases h.2 with ⟨rfl, rfl⟩ | ⟨b, r, c, s, mo, pg, bs, ex, rfl, rfl, h2⟩
  · exact ⟨_, _, nText w at_ n ha hn, zText w at_ n ha hn⟩
  · cases hc : (decide (0 ≤ at_ ∧ 0 ≤ n) && fits bs.length at_.toNat n.toNat) with
    | false => exact ⟨_, false, mTextN h2.m at_ n ha hn hc, qTextN h2.q at_ n ha hn hc⟩
    | true =>
      rw [Bool.and_eq_true] at hc
      have hp := of_decide_eq_true hc.1
      obtain ⟨p, rfl⟩ := Int.eq_ofNat_of_zero_le hp.1
      obtain ⟨q, rfl⟩ := Int.eq_ofNat_of_zero_le hp.2
      exact ⟨_, true, mTextY h2.m p q hc.2, qTextY h2.q p q hc.2⟩
theorem both_pages {w0 w : World} {k : Nat} {mv qv : Value} (h : Pair w0 k mv qv w) :
    ∃ x : Int, (Calls Try.prog 17 #[mv] w fun e w1 => e = .returned (.int .i64 x) ∧ w1 = w) ∧ Calls Try.prog 10 #[qv] w fun e w1 => e = .returned (.int .i64 x) ∧ w1 = w := by
  rcases h.2 with ⟨rfl, rfl⟩ | ⟨b, r, c, s, mo, pg, bs, ex, rfl, rfl, h2⟩
  · exact ⟨0, nPages w, zPages w⟩
  · exact ⟨_, mPages h2.m, qPages h2.q⟩
end Go.Proofs.Ytagcdnkgochpnaa
