/- Grow, Fork, Text, Fill. -/
import Derived.Test.YtagcdnkgochpnaaM3
import Derived.Deep.RegionWith
import Derived.Laws.BytesArg
namespace Go.Proofs.Ytagcdnkgochpnaa
open Go.RowKit Mm
set_option linter.unusedVariables false
namespace Mm
theorem Mem.src {w : World} {b r : Nat} {mo : Int} {pg : Nat} {bs : List Int} (h : Mem w b r mo pg bs) (j : Nat) (v : Value) (hv : (bcells bs)[j]? = some v) : w.cell? ⟨r, 0 + j, none⟩ = some v := by
  unfold bcells at hv
  rw [List.getElem?_map] at hv
  cases hx : bs[j]? with
  | none => rw [hx] at hv; cases hv
  | some x => rw [hx] at hv; cases hv; rw [Nat.zero_add]; exact h.byte j x hx
end Mm
set_option maxHeartbeats 1000000 in
theorem mGrowN {w : World} {b r : Nat} {mo : Int} {pg : Nat} {bs : List Int} (h : Mem w b r mo pg bs) (n : Int) (hn : mo - pg < n) :
    Calls Try.prog 21 #[.pointer (some ⟨b, 0, none⟩), .int .u64 n] w fun e w' => e = .returned (.int .i64 (-1)) ∧ w' = w := by
  have HP := hideR (mPages h)
  have c1 := h.cell 1 _ rfl
  have h1 := h.le
  have h2 := h.most
  have d1 : decide (n > mo - pg) = true := decide_eq_true hn
  clear h
  go_enter Try.func21, Try.ntmps21
  go_wp2_with (go_at_call 17; refine HP.out.mono ?_; rintro e w' ⟨rfl, rfl⟩)
  go_wp2
  go_ret
  exact ⟨rfl, rfl⟩
set_option maxHeartbeats 1000000 in
theorem mGrow0 {w : World} {b r : Nat} {mo : Int} {pg : Nat} {bs : List Int} (h : Mem w b r mo pg bs) :
    Calls Try.prog 21 #[.pointer (some ⟨b, 0, none⟩), .int .u64 0] w fun e w' => e = .returned (.int .i64 pg) ∧ w' = w := by
  have HP := hideR (mPages h)
  have c1 := h.cell 1 _ rfl
  have h1 := h.le
  have h2 := h.most
  have d1 : decide (0 > mo - pg) = false := decide_eq_false (by omega)
  clear h
  go_enter Try.func21, Try.ntmps21
  go_wp2_with (go_at_call 17; refine HP.out.mono ?_; rintro e w' ⟨rfl, rfl⟩)
  go_wp2
  go_ret
  exact ⟨rfl, rfl⟩
set_option maxHeartbeats 1000000 in
theorem mGrowY {w : World} {b r : Nat} {mo : Int} {pg : Nat} {bs : List Int} (h : Mem w b r mo pg bs) (n : Nat) (hn0 : 0 < n) (hn : (n : Int) ≤ mo - pg) :
    Calls Try.prog 21 #[.pointer (some ⟨b, 0, none⟩), .int .u64 n] w fun e w' => e = .returned (.int .i64 pg) ∧ (∃ r' Z, w.heap.size ≤ r' ∧ Mem w' b r' mo (pg + n) (bs ++ Z) ∧ Hid (Z = List.replicate (n * 65536) 0)) ∧ Frm [b] w w' := by
  have HP := hideR (mPages h)
  have HA := hideR (mAll h)
  have c1 := h.cell 1 _ rfl
  have h1 := h.le
  have h2 := h.most
  have hl := h.len
  have HL := hideR (mLay h.blk (pg + n) (by omega) h2 bs h.bd (some ⟨r, 0, none⟩) bs.length (by omega) (fun _ => ⟨r, 0, rfl, h.src⟩))
  rw [show (pg + n) * 65536 - bs.length = n * 65536 by omega, show ((pg + n : Nat) : Int) = (pg : Int) + n by omega] at HL
  have d1 : decide ((n : Int) > mo - pg) = false := decide_eq_false (by omega)
  have d2 : decide ((n : Int) > 0) = true := decide_eq_true (by omega)
  obtain ⟨L, hL⟩ : ∃ L, L = bs.length := ⟨_, rfl⟩
  rw [← hL] at HA HL
  clear h hl hL
  go_enter Try.func21, Try.ntmps21
  go_wp2_with (first | (go_at_call 17; refine HP.out.mono ?_; rintro e w' ⟨rfl, rfl⟩) | (go_at_call 26; refine HA.out.mono ?_; rintro e w' ⟨rfl, rfl⟩) | (go_at_call 23; refine HL.out.mono ?_; rintro e u3 ⟨rfl, he⟩; have HE := hideR he; clear he))
  go_ret
  obtain ⟨⟨r', hr, hm⟩, hf⟩ := HE.out
  exact ⟨rfl, ⟨r', _, hr, hm, rfl⟩, hf⟩
set_option maxHeartbeats 1000000 in
theorem mFork {w : World} {b r : Nat} {mo : Int} {pg : Nat} {bs : List Int} (h : Mem w b r mo pg bs) :
    Calls Try.prog 12 #[.pointer (some ⟨b, 0, none⟩)] w fun e w' => (∃ b' r', e = .returned (.pointer (some ⟨b', 0, none⟩)) ∧ w.heap.size ≤ b' ∧ w.heap.size ≤ r' ∧ Mem w' b' r' mo pg bs) ∧ Below w.heap.size w w' := by
  have c1 := h.cell 1 _ rfl
  have H := hideR h
  have hB : Below w.heap.size w (w.alloc (.cells #[.int .i64 0, .int .i64 mo, .slice none 0 0] 62)) := (Below.refl _ _).alloc (Nat.le_refl _) _
  have hN : (w.alloc (.cells #[.int .i64 0, .int .i64 mo, .slice none 0 0] 62)).heap[w.heap.size]? = some (.cells #[.int .i64 0, .int .i64 mo, .slice none 0 0] 62 (0, 0)) := Go.Deep.blk_alloc_new _ _
  have h' := h.on0 hB
  have HP := hideR (mPages h')
  have HA := hideR (mAll h')
  have h1 := h.le
  have h2 := h.most
  have hl := h.len
  have HL := hideR (mLay hN pg h1 h2 bs h.bd (some ⟨r, 0, none⟩) bs.length (by omega) (fun _ => ⟨r, 0, rfl, h'.src⟩))
  rw [show pg * 65536 - bs.length = 0 by omega] at HL
  have hsz : w.heap.size ≤ (w.alloc (.cells #[.int .i64 0, .int .i64 mo, .slice none 0 0] 62)).heap.size := hB.size
  have HB := hideR hB
  have HS := hideR hsz
  clear h h' hN hl hB hsz
  go_enter Try.func12, Try.ntmps12
  go_wp2_with (first | (go_at_call 17; refine HP.out.mono ?_; rintro e w' ⟨rfl, rfl⟩) | (go_at_call 26; refine HA.out.mono ?_; rintro e w' ⟨rfl, rfl⟩) | (go_at_call 23; refine HL.out.mono ?_; rintro e u3 ⟨rfl, he⟩; have HE := hideR he; clear he))
  go_ret
  obtain ⟨⟨r', hr', hm⟩, hf⟩ := HE.out
  rw [List.replicate_zero, List.append_nil] at hm
  exact ⟨⟨_, r', rfl, Nat.le_refl _, Nat.le_trans HS.out hr', hm⟩, hf.below HB.out (by simp)⟩
namespace Mm
theorem Mem.conv {w : World} {b r : Nat} {mo : Int} {pg : Nat} {bs : List Int} (h : Mem w b r mo pg bs) (at_ n off c : Nat) (hk : fits bs.length at_ n = true) (ho : 0 < n → off = at_) :
    (convert 60 9 (.slice (some ⟨r, off, none⟩) n c)).run Try.prog w = .ok (.string (strOfNums ((bs.drop at_).take n))) w := by
  have hf := of_decide_eq_true hk
  have hl : ((bs.drop at_).take n).length = n := by rw [List.length_take, List.length_drop]; omega
  refine run_convert_bytes_arg w 60 5 Try.underlying60 Try.underlying5 r off n c _ hl (fun i hi => ?_) 9 Try.underlying9
  obtain rfl := ho (by omega)
  obtain ⟨x, hx⟩ : ∃ x, bs[off + i]? = some x := ⟨_, List.getElem?_eq_getElem (by omega)⟩
  rw [h.byte _ _ hx, List.getD_eq_getElem?_getD, List.getElem?_take_of_lt hi, List.getElem?_drop, hx]
  rfl
end Mm
set_option maxHeartbeats 1000000 in
theorem mTextY {w : World} {b r : Nat} {mo : Int} {pg : Nat} {bs : List Int} (h : Mem w b r mo pg bs) (at_ n : Nat) (hk : fits bs.length at_ n = true) :
    Calls Try.prog 20 #[.pointer (some ⟨b, 0, none⟩), .int .i64 at_, .int .i64 n] w fun e w' => e = .returned (.tuple #[.string (strOfNums ((bs.drop at_).take n)), .bool true]) ∧ w' = w := by
  have hf := of_decide_eq_true hk
  have hL : bs.length ≤ 2097152 := by have := h.len; have := h.pg32; omega
  have HC := hideR (mCutText h at_ n (by omega) (by omega))
  rw [show Int.toNat (n : Int) = n from rfl, show Int.toNat (at_ : Int) = at_ from rfl, hk, decide_eq_true (show (0 : Int) ≤ at_ ∧ (0 : Int) ≤ n by omega), Bool.true_and] at HC
  have HV := hideR (fun off c ho => h.conv at_ n off c hk ho)
  clear hk hf hL h
  generalize strOfNums ((bs.drop at_).take n) = s at *
  go_enter Try.func20, Try.ntmps20
  go_wp2_with (go_at_call 33; refine HC.out.mono ?_; rintro e w' ⟨⟨v, rfl, o, m, c, rfl, hm, hv⟩, rfl⟩; obtain rfl : m = n := (by simpa using hm); obtain ⟨off, rfl, ho⟩ := hv.1 rfl; have hcv := HV.out off c ho; clear hv hm HC ho)
  go_ret2
  exact ⟨rfl, rfl⟩
set_option maxHeartbeats 1000000 in
theorem mTextN {w : World} {b r : Nat} {mo : Int} {pg : Nat} {bs : List Int} (h : Mem w b r mo pg bs) (at_ n : Int) (ha : at_ ≤ 9223372036854775807) (hn : n ≤ 9223372036854775807) (hk : (decide (0 ≤ at_ ∧ 0 ≤ n) && fits bs.length at_.toNat n.toNat) = false) :
    Calls Try.prog 20 #[.pointer (some ⟨b, 0, none⟩), .int .i64 at_, .int .i64 n] w fun e w' => e = .returned (.tuple #[.string ByteArray.empty, .bool false]) ∧ w' = w := by
  have HC := hideR (mCutText h at_ n ha hn)
  rw [hk] at HC
  have hcv := fun c => run_convert_bytes_nil (P := Try.prog) w 60 5 Try.underlying60 Try.underlying5 0 c 9 Try.underlying9
  clear hk h
  go_enter Try.func20, Try.ntmps20
  go_wp2_with (go_at_call 33; refine HC.out.mono ?_; rintro e w' ⟨⟨v, rfl, o, m, c, rfl, hm, hv⟩, rfl⟩; obtain rfl : m = 0 := (by simpa using hm); obtain rfl := hv.2 rfl; clear hv hm HC)
  go_ret2
  exact ⟨rfl, rfl⟩
end Go.Proofs.Ytagcdnkgochpnaa
