/- Tokens: texts copied, beginnings, tables of texts. -/
import Derived.Test.YtppjjbpiefkjlaaDoorS4
import Derived.Shelf.LaysM
import Derived.Shelf.Lay
import Derived.Shelf.Strconv.Clone
namespace Go.Proofs.YtppjjbpiefkjlaaDoor
open Go.RowKit Go.Shelf Lx
set_option linter.unusedVariables false
def Tryd.laysClone_ren : Go.Shelf.Ren := ⟨fun | 316 => 31 | n => n, fun | 9 => 9 | 3 => 3 | 4 => 4 | 37 => 34 | 0 => 0 | 127 => 53 | 5 => 5 | n => n, fun | n => n⟩
theorem Tryd.laysClone : Go.Proofs.LaysM.n316 Tryd.prog Tryd.laysClone_ren := {
  mixed := by kernel_rfl
  f316 := Tryd.func31.trans (congrArg some (by kernel_rfl))
  t0 := Tryd.underlying0
  a0 := Tryd.isAgg0
  z0 := Tryd.sizeOf0
  v0 := Tryd.zeroValue0
  t3 := Tryd.underlying3
  a3 := Tryd.isAgg3
  z3 := Tryd.sizeOf3
  v3 := Tryd.zeroValue3
  t4 := Tryd.underlying4
  a4 := Tryd.isAgg4
  z4 := Tryd.sizeOf4
  v4 := Tryd.zeroValue4
  t9 := Tryd.underlying9
  a9 := Tryd.isAgg9
  z9 := Tryd.sizeOf9
  v9 := Tryd.zeroValue9
  t37 := Tryd.underlying34
  a37 := Tryd.isAgg34
  z37 := Tryd.sizeOf34
  v37 := Tryd.zeroValue34
  t127 := Tryd.underlying53
  a127 := Tryd.isAgg53
  z127 := Tryd.sizeOf53
  v127 := Tryd.zeroValue53
  t5 := Tryd.underlying5
  a5 := Tryd.isAgg5
  z5 := Tryd.sizeOf5
  v5 := Tryd.zeroValue5
  i0 := by kernel_rfl
  i3 := by kernel_rfl
  i4 := by kernel_rfl
  i5 := by kernel_rfl
  i9 := by kernel_rfl
  i37 := by kernel_rfl
  i127 := by kernel_rfl }
theorem pCloneS (s : ByteArray) (w : World) (h : s.size ≤ 281474976710656) : Calls Tryd.prog 31 #[.string s] w fun e w' => e = .returned (.string s) ∧ Below w.heap.size w w' :=
  Any.stringslite_Clone Tryd.laysClone s w h
theorem pClone (s : ByteArray) (w : World) (h : s.size ≤ 281474976710656) : Calls Tryd.prog 21 #[.string s] w fun e w' => e = .returned (.string s) ∧ Below w.heap.size w w' := by
  have H := hideR (pCloneS s w h)
  go_enter Tryd.func21, Tryd.ntmps21
  go_wp2_with fail
  refine H.out.mono ?_
  rintro e u ⟨rfl, hb⟩
  have HB := hideR hb
  clear hb
  go_wp2
  go_ret
  exact ⟨rfl, HB.out⟩
theorem bytes_ne {t s : ByteArray} (h : ¬ t = s) : (t.toList == s.toList) = false := by
  rw [beq_eq_false_iff_ne]
  intro e
  rw [ByteArray.toList_eq, ByteArray.toList_eq] at e
  exact h (ByteArray.ext (Array.toList_inj.1 e))
theorem bytes_eq {t s : ByteArray} (h : t = s) : (t.toList == s.toList) = true := by rw [h]; simp
theorem pHasS (t x : ByteArray) (w : World) : Calls Tryd.prog 30 #[.string t, .string x] w fun e w' => e = .returned (.bool (pfx t x)) ∧ w' = w := by
  have hB : pfx t x = (decide (x.size ≤ t.size) && decide (t.extract 0 x.size = x)) := rfl
  generalize pfx t x = B at hB ⊢
  by_cases h1 : x.size ≤ t.size
  · have q1 : decide ((t.size : Int) ≥ (x.size : Int)) = true := decide_eq_true (by omega)
    by_cases h2 : t.extract 0 x.size = x
    · rw [decide_eq_true h1, decide_eq_true h2] at hB
      have q2 := bytes_eq h2
      clear h2
      subst hB
      go_enter Tryd.func30, Tryd.ntmps30
      go_wp2
      all_goals first | (go_ret; exact ⟨rfl, rfl⟩) | skip
    · rw [decide_eq_true h1, decide_eq_false h2] at hB
      have q2 := bytes_ne h2
      clear h2
      subst hB
      go_enter Tryd.func30, Tryd.ntmps30
      go_wp2
      all_goals first | (go_ret; exact ⟨rfl, rfl⟩) | skip
  · rw [decide_eq_false h1] at hB
    have q1 : decide ((t.size : Int) ≥ (x.size : Int)) = false := decide_eq_false (by omega)
    subst hB
    go_enter Tryd.func30, Tryd.ntmps30
    go_wp2
    go_ret
    exact ⟨rfl, rfl⟩
theorem pHas (t x : ByteArray) (w : World) : Calls Tryd.prog 20 #[.string t, .string x] w fun e w' => e = .returned (.bool (pfx t x)) ∧ w' = w := by
  have H := hideR (pHasS t x w)
  go_enter Tryd.func20, Tryd.ntmps20
  go_wp2_with fail
  refine H.out.mono ?_
  rintro e u ⟨rfl, rfl⟩
  go_wp2
  go_ret
  exact ⟨rfl, rfl⟩
namespace Lx
theorem amg_at (s : ByteArray) (l : List ByteArray) (k : Nat) (x : ByteArray) (h : l[k]? = some x) : amg s (l.drop k) = if x = s then true else amg s (l.drop (k + 1)) := by
  obtain ⟨hk, hx⟩ := List.getElem?_eq_some_iff.1 h
  rw [List.drop_eq_getElem_cons hk, amg, hx]
end Lx
set_option maxHeartbeats 1000000 in
theorem rAmong (s : ByteArray) (l : List ByteArray) (b c : Nat) (w : World) (hl : l.length < 1000) (hc : ∀ k x, l[k]? = some x → w.cell? ⟨b, k, none⟩ = some (.string x)) :
    Calls Tryd.prog 33 #[.string s, .slice (some ⟨b, 0, none⟩) l.length c] w fun e w' => e = .returned (.bool (amg s l)) ∧ w' = w := by
  obtain ⟨R, hR⟩ : ∃ R, R = amg s l := ⟨_, rfl⟩
  have st0 : Hid (amg s (l.drop 0) = R) := hideR (by rw [hR]; rfl)
  rw [← hR]
  clear hR
  have HC := hideR hc
  have HL := hideR hl
  clear hc hl
  go_enter Tryd.func33, Tryd.ntmps33
  go_wp2_with fail
  go_loop [5] (fun a => ∃ k : Nat, a = .int .i64 k ∧ k ≤ l.length ∧ Hid (amg s (l.drop k) = R)) (fun a => match a with | .int _ k => l.length - k.toNat | _ => 0)
  case atStart => exact ⟨0, rfl, Nat.zero_le _, st0⟩
  case round =>
    obtain ⟨k, rfl, hk, hR⟩ := hrel
    clear st0
    by_cases hp : k < l.length
    · have q1 : decide ((k : Int) < (l.length : Int)) = true := decide_eq_true (by omega)
      obtain ⟨x, hx⟩ : ∃ x, l[k]? = some x := ⟨_, List.getElem?_eq_getElem hp⟩
      have hcell := HC.out k x hx
      have hs := amg_at s l k x hx
      rw [hR.out] at hs
      have hw1 : wrap64 ((k : Int) + 1) = ((k + 1 : Nat) : Int) := by have := HL.out; unfold wrap64; omega
      by_cases h : x = s
      · rw [if_pos h] at hs
        have q2 := bytes_eq h
        have HS := hideR hs
        clear hs hx h hR
        go_wp2
        go_ret
        exact ⟨ret_bool HS.out.symm, rfl⟩
      · rw [if_neg h] at hs
        have q2 := bytes_ne h
        have HS := hideR hs
        clear hs hx h hR
        go_wp2
        go_round
        case rel => exact ⟨k + 1, by first | rfl | (congr 1), hp, hideR HS.out.symm⟩
        case measure => simp; omega
    · have q1 : decide ((k : Int) < (l.length : Int)) = false := decide_eq_false (by omega)
      have hs : R = false := by rw [← hR.out, List.drop_eq_nil_of_le (by omega)]; rfl
      have HS := hideR hs
      clear hs hR
      go_wp2
      go_ret
      exact ⟨ret_bool HS.out.symm, rfl⟩
theorem tab_cells (w : World) (t : TypeId) (l : List ByteArray) : ∀ k x, l[k]? = some x → (w.alloc (.cells (l.map Value.string).toArray t)).cell? ⟨w.heap.size, k, none⟩ = some (.string x) := fun k x h => by
  rw [World.cell?_alloc_at _ t _ _ rfl]
  simp [h]
set_option maxHeartbeats 1000000 in
theorem rKey (s : ByteArray) (w : World) : Calls Tryd.prog 25 #[.string s] w fun e w' => e = .returned (.bool (amg s keys)) ∧ Below w.heap.size w w' := by
  have H := hideR (rAmong s keys w.heap.size 12 _ (by decide) (tab_cells w 9 keys))
  have HB := hideR ((Below.refl _ w).alloc (Nat.le_refl _) (.cells (keys.map Value.string).toArray 9))
  obtain ⟨B, hB⟩ : ∃ B, B = amg s keys := ⟨_, rfl⟩
  rw [← hB] at H ⊢
  clear hB
  go_enter Tryd.func25, Tryd.ntmps25
  go_wp2_with fail
  refine Calls.mono (show Calls _ _ _ _ _ from H.out) ?_
  rintro e u ⟨rfl, rfl⟩
  go_wp2
  go_ret
  exact ⟨rfl, HB.out⟩
set_option maxHeartbeats 1000000 in
theorem rSign (s : ByteArray) (w : World) : Calls Tryd.prog 28 #[.string s] w fun e w' => e = .returned (.bool (amg s signs)) ∧ Below w.heap.size w w' := by
  have H := hideR (rAmong s signs w.heap.size 14 _ (by decide) (tab_cells w 9 signs))
  have HB := hideR ((Below.refl _ w).alloc (Nat.le_refl _) (.cells (signs.map Value.string).toArray 9))
  obtain ⟨B, hB⟩ : ∃ B, B = amg s signs := ⟨_, rfl⟩
  rw [← hB] at H ⊢
  clear hB
  go_enter Tryd.func28, Tryd.ntmps28
  go_wp2_with fail
  refine Calls.mono (show Calls _ _ _ _ _ from H.out) ?_
  rintro e u ⟨rfl, rfl⟩
  go_wp2
  go_ret
  exact ⟨rfl, HB.out⟩
end Go.Proofs.YtppjjbpiefkjlaaDoor
