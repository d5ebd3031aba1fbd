/- Types are popped, from the last on: a range over slices.Backward, whose rounds may give up. -/
import Derived.Test.YtlpnoelolkbmmaaDoorV2
import Derived.RangeFuncSeq
import Derived.RangeFuncOwn
import Derived.Shelf.Abstract
import Derived.WalkKit
import Derived.OwnWalkIn
import Derived.TacticsInMore
import Derived.LoopNIn
import Derived.LoopIn
namespace Go.Proofs.YtlpnoelolkbmmaaDoor
open Go.RowKit Rep Val
set_option linter.unusedVariables false
set_option maxRecDepth 100000 in
set_option maxHeartbeats 4000000 in
theorem vBack1 (n l Bs len cap : Nat) (o : Option Addr) (b off : Nat) (zs : List Int) (hlen : len ≤ 100000) (ho : 0 < len → o = some ⟨b, off, none⟩) (J : Nat → World → Prop) (Jx : Int → World → Prop)
    (hJ : ∀ k W, J k W → W.cell? ⟨Bs, 0, none⟩ = some (.slice o len cap) ∧ ∀ j, j < len → W.cell? ⟨b, off + j, none⟩ = some (.int .i64 (zs.getD j 0)))
    (hY : ∀ k W, k < len → J k W → YieldAt Fence.wide (n - 1) Tryd.prog l #[.int .i64 ((len : Int) - 1 - k), .int .i64 (zs.getD (len - 1 - k) 0)] W fun e W' => (e = .returned (.bool true) ∧ J (k + 1) W') ∨ (∃ z, e = .panicked (gave z) ∧ Jx z W'))
    (W : World) (h0 : J 0 W) : CallsIn Fence.wide n Tryd.prog 76 #[.func (.yield l) #[] #[], .pointer (some ⟨Bs, 0, none⟩)] W fun e W' => ((∃ v, e = .returned v) ∧ J len W') ∨ (∃ z, e = .panicked (gave z) ∧ Jx z W') := by
  obtain ⟨hc0, _⟩ := hJ 0 W h0
  refine callsIn_of_wp Tryd.func76 rfl trivial ?_ rfl
  simp only [Tryd.ntmps76, List.size_toArray, List.length_cons, List.length_nil, Nat.reduceAdd, Nat.reduceSub, Array.replicate_succ, Array.replicate_zero, List.push_toArray, List.append_toArray, List.nil_append, List.cons_append]
  gi_wp2
  gi_loopw [3] (fun i wr => ∃ k : Nat, k ≤ len ∧ i = .int .i64 ((len : Int) - 1 - k) ∧ J k wr) (fun i _ => (intOf i + 1).toNat)
  case atStart => exact ⟨0, Nat.zero_le _, by first | rfl | simp, h0⟩
  case round =>
    obtain ⟨k, hk, rfl, hJs⟩ := hrel
    obtain ⟨hcs, hce⟩ := hJ k wr hJs
    by_cases hlt : k < len
    · obtain rfl := ho (by omega)
      obtain ⟨fn, tmps, assign, body, hy, hR⟩ := hY k wr hlt hJs
      have hc := hce (len - 1 - k) (by omega)
      generalize zs.getD (len - 1 - k) 0 = x at *
      clear hce
      gi_wp2
      refine ⟨(by intro h; cases h), hR.mono ?_⟩
      rintro e W3 (⟨rfl, hJ3⟩ | ⟨z, rfl, hx⟩)
      · gi_wp2
        go_roundw
        case rel => exact ⟨k + 1, by omega, by congr 1; omega, hJ3⟩
        case measure => simp [intOf]; omega
      · exact ⟨rfl, .inr ⟨z, rfl, hx⟩⟩
    · obtain rfl : k = len := by omega
      gi_wp2
      go_end0
      exact .inl ⟨⟨_, rfl⟩, hJs⟩
end Go.Proofs.YtlpnoelolkbmmaaDoor
